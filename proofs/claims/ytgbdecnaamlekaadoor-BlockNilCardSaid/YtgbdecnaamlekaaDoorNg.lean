/-
  The reference's Codes.
  Conditions: none but the row.
-/
import Derived.Test.YtgbdecnaamlekaaDoorNf
namespace Go.Proofs.YtgbdecnaamlekaaDoor.Ng
open Go.RowKit Go.Proofs.YtgbdecnaamlekaaDoor.Vm Go.Proofs.YtgbdecnaamlekaaDoor.Na Go.Proofs.YtgbdecnaamlekaaDoor.Nm Go.Proofs.YtgbdecnaamlekaaDoor.Bw Go.Proofs.YtgbdecnaamlekaaDoor.Ni Go.Proofs.YtgbdecnaamlekaaDoor.Nc Go.Proofs.YtgbdecnaamlekaaDoor.Nd Go.Proofs.YtgbdecnaamlekaaDoor.Ne Go.Proofs.YtgbdecnaamlekaaDoor.Nf

set_option maxRecDepth 100000 in
theorem rCodes_no {A : Option Addr} {n cap : Nat} {f : Nat → Int} (hn : n ≤ 9223372036854775807) (he : err n f ≠ 0) {w : World} (HC : Hid (row w A n f)) :
    Calls Tryd.prog 81 #[.slice A n cap] w fun e w' => e = .returned (.tuple #[.slice none 0 0, .int .i64 (err n f)]) ∧ Below w.heap.size w w' := by
  have hW := wrong_any (cap := cap) hn HC
  have hK := rKraft_any (cap := cap) hn HC
  rcases bad_cases n f with ⟨hb, _⟩ | ⟨hb, _⟩ | ⟨hb, h1, h2⟩
  · rw [err_bad (by omega), hb]
    rw [hb] at hW
    have HW := Lib.hid hW
    clear hW hb hK he
    go_enter Tryd.func81, Tryd.ntmps81
    go_wp2_with fail
    refine HW.out.mono ?_
    rintro e w' ⟨rfl, rfl⟩
    go_wp2
    go_ret2
    exact ⟨rfl, Below.refl _ _⟩
  · rw [err_bad (by omega), hb]
    rw [hb] at hW
    have HW := Lib.hid hW
    clear hW hb hK he
    go_enter Tryd.func81, Tryd.ntmps81
    go_wp2_with fail
    refine HW.out.mono ?_
    rintro e w' ⟨rfl, rfl⟩
    go_wp2
    go_ret2
    exact ⟨rfl, Below.refl _ _⟩
  · by_cases ho : 32768 < ksum (L n f) 16
    · rw [err_over hb ho]
      rw [kra_ok hb] at hK
      rw [hb] at hW
      have hk := ksum_small (n := n) (f := f) h1
      have HW := Lib.hid hW
      have HK := Lib.hid hK
      clear hW hb hK he h2
      go_enter Tryd.func81, Tryd.ntmps81
      go_wp2_with fail
      refine HW.out.mono ?_
      rintro e w' ⟨rfl, rfl⟩
      go_wp2_with fail
      refine HK.out.mono ?_
      rintro e w' ⟨rfl, rfl⟩
      go_wp2
      go_ret2
      exact ⟨rfl, Below.refl _ _⟩
    · exact absurd (err_ok hb ho) he

/-- The codes when the lengths below m stand, and of m the first j symbols. -/
def upto (l : List Nat) (m j i : Nat) : Int := if nth l i < m ∨ (nth l i = m ∧ i < j) then (code l i : Int) else 0
theorem code_none {l : List Nat} {i : Nat} (h : nth l i = 0) : code l i = 0 := by simp [code, h, fst, ct]
theorem upto_start (l : List Nat) (n : Nat) : arr n (fun _ => 0) = arr n (upto l 1 0) := arr_congr (fun i _ => by
  unfold upto
  by_cases h : nth l i = 0
  · rw [if_pos (by omega), code_none h]; rfl
  · rw [if_neg (by omega)])
theorem upto_turn (l : List Nat) (m n : Nat) : arr n (upto l m n) = arr n (upto l (m + 1) 0) := arr_congr (fun i hi => by
  unfold upto
  by_cases h : nth l i < m + 1
  · rw [if_pos (by omega), if_pos (by omega)]
  · rw [if_neg (by omega), if_neg (by omega)])
theorem upto_end {l : List Nat} (n : Nat) (h : ∀ i, nth l i ≤ 15) : arr n (upto l 16 0) = arr n (fun i => (code l i : Int)) := arr_congr (fun i _ => by
  unfold upto
  rw [if_pos (by have := h i; omega)])
theorem upto_same {l : List Nat} {m j : Nat} (n : Nat) (h : nth l j ≠ m) : arr n (upto l m j) = arr n (upto l m (j + 1)) := arr_congr (fun i _ => by
  unfold upto
  by_cases e : i = j
  · subst e
    by_cases h2 : nth l i < m
    · rw [if_pos (by omega), if_pos (by omega)]
    · rw [if_neg (by omega), if_neg (by omega)]
  · by_cases h2 : nth l i < m ∨ (nth l i = m ∧ i < j)
    · rw [if_pos h2, if_pos (by omega)]
    · rw [if_neg h2, if_neg (by omega)])
theorem upto_set {l : List Nat} {m j : Nat} (n : Nat) (h : nth l j = m) : (arr n (upto l m j)).setIfInBounds j (.int .i64 ((fst l m + ct (l.take j) m : Nat) : Int)) = arr n (upto l m (j + 1)) := by
  rw [arr_set]
  refine arr_congr (fun i _ => ?_)
  unfold upto
  by_cases e : i = j
  · subst e
    rw [if_pos rfl, if_pos (by omega), code, h]
  · rw [if_neg e]
    by_cases h2 : nth l i < m ∨ (nth l i = m ∧ i < j)
    · rw [if_pos h2, if_pos (by omega)]
    · rw [if_neg h2, if_neg (by omega)]

set_option maxRecDepth 100000 in
theorem rCodes_ok {A : Option Addr} {n cap : Nat} {f : Nat → Int} (he : err n f = 0) {w : World} (HC : Hid (row w A n f)) :
    Calls Tryd.prog 81 #[.slice A n cap] w fun e w' => ∃ g, e = .returned (.tuple #[.slice (some ⟨g, 0, none⟩) n n, .int .i64 0]) ∧ Blk w' g 3 (arr n (fun i => (code (L n f) i : Int))) ∧ w.heap.size ≤ g ∧ Below w.heap.size w w' := by
  obtain ⟨h1, h2, h3⟩ := err_zero he
  have hb := bad_ok h1 h2
  have hW := wrong_any (cap := cap) (by omega) HC
  have hK := rKraft_any (cap := cap) (by omega) HC
  rw [hb] at hW
  rw [kra_ok hb] at hK
  have HW := Lib.hid hW
  have HK := Lib.hid hK
  have H15 := Lib.hid (L_le h2)
  have HR := Lib.hid (L_row h2 HC.out)
  have hmk := made n (by omega)
  obtain ⟨l, hl⟩ : ∃ l, l = L n f := ⟨_, rfl⟩
  have hln : Hid (l.length = n) := Lib.hid (by rw [hl, L_length])
  rw [← hl] at H15 HR HK h3 ⊢
  clear hW h2 he hK hb hl HC
  go_enter Tryd.func81, Tryd.ntmps81
  go_wp2_with fail
  refine HW.out.mono ?_
  rintro e w' ⟨rfl, rfl⟩
  go_wp2_with fail
  refine HK.out.mono ?_
  rintro e w' ⟨rfl, rfl⟩
  go_wp2
  go_loopw [7, 6] (fun i c wr => ∃ m : Nat, i = .int .i64 m ∧ c = .int .i64 (fst l m) ∧ 1 ≤ m ∧ m ≤ 16 ∧ Hid (Blk wr w.heap.size 3 (arr n (upto l m 0))) ∧ Hid (Below w.heap.size w wr))
    (fun i _ _ => 16 - (intOf i).toNat)
  case atStart =>
    exact ⟨1, rfl, rfl, by omega, by omega, Lib.hid (by rw [upto_start l]; exact Blk.fresh w _ _), Lib.hid (below_alloc _ _)⟩
  case round =>
    obtain ⟨m, rfl, rfl, hm1, hm16, HT, HB⟩ := hrel
    clear hmk
    by_cases hm : m ≤ 15
    · go_wp2
      obtain ⟨wo, rfl⟩ : ∃ wo : World, wo = wr := ⟨_, rfl⟩
      go_loopw [8, 6] (fun i c wr => ∃ j : Nat, i = .int .i64 j ∧ c = .int .i64 ((fst l m + ct (l.take j) m : Nat) : Int) ∧ j ≤ n ∧ Hid (Blk wr w.heap.size 3 (arr n (upto l m j))) ∧ Hid (Below w.heap.size w wr))
        (fun i _ _ => n - (intOf i).toNat)
      case atStart => exact ⟨0, rfl, by simp [ct_nil], by omega, HT, HB⟩
      case round =>
        obtain ⟨j, rfl, rfl, hj, HT2, HB2⟩ := hrel
        have hyb : fst l m + ct (l.take j) m ≤ 65536 * 320 := by
          have := fst_le l m
          have h3 := ct_take_le (l := l) (j := j) m
          have h2 : 2 ^ (m + 1) * l.length ≤ 2 ^ 16 * 320 := Nat.mul_le_mul (Nat.pow_le_pow_right (by omega) (by omega)) (by rw [hln.out]; exact h1)
          omega
        by_cases hjn : j < n
        · have hjl : Hid (j < l.length) := Lib.hid (by rw [hln.out]; exact hjn)
          obtain ⟨b, off, rfl, hbl, hc0⟩ := HR.out.get (k := j) hjl.out
          have hc := (HB2.out.cell (p := ⟨b, off + j, none⟩) hbl).trans hc0
          clear hc0
          have HN := Lib.hid (ct_next hjl.out m)
          have HS := Lib.hid (fun h => upto_same (l := l) (m := m) (j := j) n h)
          have HS2 := Lib.hid (fun h => upto_set (l := l) (m := m) (j := j) n h)
          obtain ⟨x, hx⟩ : ∃ x, x = nth l j := ⟨_, rfl⟩
          obtain ⟨y, hy⟩ : ∃ y, y = fst l m + ct (l.take j) m := ⟨_, rfl⟩
          rw [← hx] at hc HN HS HS2
          rw [← hy] at hyb HS2 ⊢
          have HY := Lib.hid hy
          clear hx hy
          by_cases hxm : x = m
          · subst hxm
            have htz : wr.cell? ⟨w.heap.size, j, none⟩ = some (.int .i64 (upto l x j j)) := by rw [HT2.out.cell, arr_get _ hjn]
            have hfz := HT2.out.frozen j
            go_wp2
            go_roundw
            case rel =>
              refine ⟨j + 1, by go_num, ?_, by omega, Lib.hid ?_, Lib.hid (HB2.out.setCell (Nat.le_refl _) _)⟩
              · have := HN.out
                rw [if_pos ⟨rfl, by omega⟩] at this
                rw [this, ← Nat.add_assoc, ← HY.out]; simp
              · have h := HT2.out.store j (.int .i64 y)
                rw [HS2.out rfl] at h; exact h
            case measure => simp [intOf]; omega
          · have hxm' : ((x : Int) == (m : Int)) = false := by simp; omega
            go_wp2
            go_roundw
            case rel =>
              refine ⟨j + 1, by go_num, ?_, by omega, Lib.hid ?_, HB2⟩
              · have := HN.out
                rw [if_neg (fun h => hxm h.1.symm)] at this
                rw [this, Nat.add_zero, ← HY.out]
              · rw [← HS.out hxm]; exact HT2.out
            case measure => simp [intOf]; omega
        · have hj8 := Lib.hid (show j = n by omega)
          have HC8 : Hid (fst l m + ct (l.take j) m = fst l m + ct l m) := Lib.hid (by rw [hj8.out, ← hln.out, List.take_length])
          obtain ⟨y, hy⟩ : ∃ y, y = fst l m + ct (l.take j) m := ⟨_, rfl⟩
          rw [← hy] at hyb HC8 ⊢
          clear hy
          go_wp2
          go_roundw
          case rel =>
            refine ⟨m + 1, by go_num, ?_, by omega, by omega, Lib.hid ?_, HB2⟩
            · rw [fst, ← HC8.out]; simp
            · rw [← upto_turn]
              have h := HT2.out
              rw [hj8.out] at h; exact h
          case measure => simp [intOf]; omega
    · have hm8 := Lib.hid (show m = 16 by omega)
      go_wp2
      go_ret2
      exact ⟨w.heap.size, rfl, by rw [← upto_end n H15.out, ← hm8.out]; exact HT.out, Nat.le_refl _, HB.out⟩
end Go.Proofs.YtgbdecnaamlekaaDoor.Ng
