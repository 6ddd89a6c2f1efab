/-
  uncodable and Kraft, and the reference's Kraft.
  Conditions: none but the row.
-/
import Derived.Test.YtgbdecnaamlekaaDoorNd
namespace Go.Proofs.YtgbdecnaamlekaaDoor.Ne
open Go.RowKit Go.Proofs.YtgbdecnaamlekaaDoor.Vm Go.Proofs.YtgbdecnaamlekaaDoor.Na Go.Proofs.YtgbdecnaamlekaaDoor.Nm Go.Proofs.YtgbdecnaamlekaaDoor.Bw Go.Proofs.YtgbdecnaamlekaaDoor.Ni Go.Proofs.YtgbdecnaamlekaaDoor.Nc Go.Proofs.YtgbdecnaamlekaaDoor.Nd

/-- The lengths as natural numbers. -/
def L (n : Nat) (f : Nat → Int) : List Nat := (List.range n).map (fun i => (f i).toNat)
theorem L_length (n : Nat) (f : Nat → Int) : (L n f).length = n := by simp [L]
theorem L_nth {n : Nat} {f : Nat → Int} {i : Nat} (h : i < n) : nth (L n f) i = (f i).toNat := by simp [nth, L, List.getD_eq_getElem?_getD, h]
theorem L_out {n : Nat} {f : Nat → Int} {i : Nat} (h : ¬ i < n) : nth (L n f) i = 0 := by simp [nth, L, List.getD_eq_getElem?_getD, h]
theorem L_le {n : Nat} {f : Nat → Int} (h : ∀ i, i < n → 0 ≤ f i ∧ f i ≤ 15) (i : Nat) : nth (L n f) i ≤ 15 := by
  by_cases hi : i < n
  · rw [L_nth hi]; have := h i hi; omega
  · rw [L_out hi]; omega
theorem L_eq {n : Nat} {f : Nat → Int} (h : ∀ i, i < n → 0 ≤ f i ∧ f i ≤ 15) {i : Nat} (hi : i < n) : f i = (nth (L n f) i : Int) := by
  rw [L_nth hi]; have := h i hi; omega
theorem L_row {w : World} {A : Option Addr} {n : Nat} {f : Nat → Int} (h : ∀ i, i < n → 0 ≤ f i ∧ f i ≤ 15) (hr : row w A n f) : lens w A (L n f) := by
  unfold lens; rw [L_length]; exact hr.congr (fun i hi => L_eq h hi)

/-- What is wrong of lengths that are to have codes. -/
def err (n : Nat) (f : Nat → Int) : Int := if bad n f ≠ 0 then bad n f else if 32768 < ksum (L n f) 16 then 7 else 0
theorem err_bad {n : Nat} {f : Nat → Int} (h : bad n f ≠ 0) : err n f = bad n f := if_pos h
theorem err_over {n : Nat} {f : Nat → Int} (h : bad n f = 0) (h2 : 32768 < ksum (L n f) 16) : err n f = 7 := by unfold err; rw [if_neg (by omega), if_pos h2]
theorem err_ok {n : Nat} {f : Nat → Int} (h : bad n f = 0) (h2 : ¬ 32768 < ksum (L n f) 16) : err n f = 0 := by unfold err; rw [if_neg (by omega), if_neg h2]
theorem err_zero {n : Nat} {f : Nat → Int} (h : err n f = 0) : n ≤ 320 ∧ (∀ i, i < n → 0 ≤ f i ∧ f i ≤ 15) ∧ ksum (L n f) 16 ≤ 32768 := by
  rcases bad_cases n f with ⟨hb, _⟩ | ⟨hb, _⟩ | ⟨hb, h1, h2⟩
  · rw [err_bad (by omega)] at h; omega
  · rw [err_bad (by omega)] at h; omega
  · refine ⟨h1, h2, ?_⟩
    by_cases h3 : 32768 < ksum (L n f) 16
    · rw [err_over hb h3] at h; omega
    · omega
theorem ksum_small {n : Nat} {f : Nat → Int} (h : n ≤ 320) : ksum (L n f) 16 ≤ 200000000 := by
  have := ksum_le (L n f) 16
  rw [L_length] at this
  omega

theorem count_n {A : Option Addr} {n cap : Nat} {f : Nat → Int} (hn : n ≤ 320) (hf : ∀ i, i < n → 0 ≤ f i ∧ f i ≤ 15) {w : World} (HC : Hid (row w A n f)) :
    Calls Tryd.prog 92 #[.slice A n cap] w fun e w' => e = .returned (.agg (arr 16 (fun i => (ct (L n f) i : Int)))) ∧ Below w.heap.size w w' := by
  have h := count_any (A := A) (cap := cap) (l := L n f) (by rw [L_length]; exact hn) (L_le hf) (w := w) (Lib.hid (L_row hf HC.out))
  rw [L_length] at h
  exact h
theorem kraft_n {n : Nat} {f : Nat → Int} (hn : n ≤ 320) (w : World) :
    Calls Tryd.prog 93 #[.agg (arr 16 (fun i => (ct (L n f) i : Int)))] w fun e w' => e = .returned (.int .i64 (ksum (L n f) 16)) ∧ Below w.heap.size w w' :=
  kraft_any (by rw [L_length]; exact hn) w

set_option maxRecDepth 100000 in
theorem uncodable_any {A : Option Addr} {n cap : Nat} {f : Nat → Int} (hn : n ≤ 9223372036854775807) {w : World} (HC : Hid (row w A n f)) :
    Calls Tryd.prog 91 #[.slice A n cap] w fun e w' => e = .returned (.int .i64 (err n f)) ∧ Below w.heap.size w w' := by
  have hI := invalid_any (cap := cap) hn HC
  rcases bad_cases n f with ⟨hb, _⟩ | ⟨hb, _⟩ | ⟨hb, h1, h2⟩
  · rw [err_bad (by omega), hb]
    rw [hb] at hI
    have HI := Lib.hid hI
    clear hI hb
    go_enter Tryd.func91, Tryd.ntmps91
    go_wp2_with fail
    refine HI.out.mono ?_
    rintro e w' ⟨rfl, rfl⟩
    go_wp2
    go_ret
    exact ⟨rfl, Below.refl _ _⟩
  · rw [err_bad (by omega), hb]
    rw [hb] at hI
    have HI := Lib.hid hI
    clear hI hb
    go_enter Tryd.func91, Tryd.ntmps91
    go_wp2_with fail
    refine HI.out.mono ?_
    rintro e w' ⟨rfl, rfl⟩
    go_wp2
    go_ret
    exact ⟨rfl, Below.refl _ _⟩
  · rw [hb] at hI
    have HI := Lib.hid hI
    have HF := Lib.hid h2
    have HBad := Lib.hid hb
    have hk := ksum_small (n := n) (f := f) h1
    clear hI hb h2
    by_cases ho : 32768 < ksum (L n f) 16
    · rw [err_over HBad.out ho]
      go_enter Tryd.func91, Tryd.ntmps91
      go_wp2_with fail
      refine HI.out.mono ?_
      rintro e w' ⟨rfl, rfl⟩
      go_wp2_with fail
      refine (count_n h1 HF.out HC).mono ?_
      rintro e w1 ⟨rfl, b1⟩
      go_wp2_with fail
      refine (kraft_n h1 _).mono ?_
      rintro e w2 ⟨rfl, b2⟩
      go_wp2
      go_ret
      exact ⟨rfl, grows b1 b2⟩
    · rw [err_ok HBad.out ho]
      go_enter Tryd.func91, Tryd.ntmps91
      go_wp2_with fail
      refine HI.out.mono ?_
      rintro e w' ⟨rfl, rfl⟩
      go_wp2_with fail
      refine (count_n h1 HF.out HC).mono ?_
      rintro e w1 ⟨rfl, b1⟩
      go_wp2_with fail
      refine (kraft_n h1 _).mono ?_
      rintro e w2 ⟨rfl, b2⟩
      go_wp2
      go_ret
      exact ⟨rfl, grows b1 b2⟩

/-- What Kraft answers. -/
def kra (n : Nat) (f : Nat → Int) : Int := if bad n f ≠ 0 then -1 else (ksum (L n f) 16 : Int)
theorem kra_bad {n : Nat} {f : Nat → Int} (h : bad n f ≠ 0) : kra n f = -1 := if_pos h
theorem kra_ok {n : Nat} {f : Nat → Int} (h : bad n f = 0) : kra n f = (ksum (L n f) 16 : Int) := if_neg (by omega)
theorem wrap_one (s d : Nat) (h : s + 2 ^ d ≤ 1000000000000) : wrap64 ((s : Int) + wrap64 (2 ^ d)) = ((s + 2 ^ d : Nat) : Int) := by
  have e : ((2 : Int) ^ d) = ((2 ^ d : Nat) : Int) := by simp
  rw [e]
  obtain ⟨m, hm⟩ : ∃ m, m = 2 ^ d := ⟨_, rfl⟩
  rw [← hm] at h ⊢
  rw [wrap64_in (n := (m : Int)) (by omega) (by omega), wrap64_in (by omega) (by omega)]; simp

set_option maxRecDepth 100000 in
theorem rKraft_any {A : Option Addr} {n cap : Nat} {f : Nat → Int} (hn : n ≤ 9223372036854775807) {w : World} (HC : Hid (row w A n f)) :
    Calls Tryd.prog 82 #[.slice A n cap] w fun e w' => e = .returned (.int .i64 (kra n f)) ∧ w = w' := by
  have hI := wrong_any (cap := cap) hn HC
  rcases bad_cases n f with ⟨hb, _⟩ | ⟨hb, _⟩ | ⟨hb, h1, h2⟩
  · rw [kra_bad (by omega)]
    rw [hb] at hI
    have HI := Lib.hid hI
    clear hI hb
    go_enter Tryd.func82, Tryd.ntmps82
    go_wp2_with fail
    refine HI.out.mono ?_
    rintro e w' ⟨rfl, rfl⟩
    go_wp2
    go_ret
    exact ⟨rfl, rfl⟩
  · rw [kra_bad (by omega)]
    rw [hb] at hI
    have HI := Lib.hid hI
    clear hI hb
    go_enter Tryd.func82, Tryd.ntmps82
    go_wp2_with fail
    refine HI.out.mono ?_
    rintro e w' ⟨rfl, rfl⟩
    go_wp2
    go_ret
    exact ⟨rfl, rfl⟩
  · rw [hb] at hI
    have HI := Lib.hid hI
    have HL := Lib.hid (L_row h2 HC.out)
    have H15 := Lib.hid (L_le h2)
    have HF := Lib.hid h2
    rw [kra_ok hb]
    obtain ⟨l, hl⟩ : ∃ l, l = L n f := ⟨_, rfl⟩
    have hln : Hid (l.length = n) := Lib.hid (by rw [hl, L_length])
    rw [← hl] at HL H15 ⊢
    clear hI hb h2 hl HC HF
    go_enter Tryd.func82, Tryd.ntmps82
    go_wp2_with fail
    refine HI.out.mono ?_
    rintro e w' ⟨rfl, rfl⟩
    go_wp2
    go_loopw [4, 3] (fun i s wr => ∃ k : Nat, i = .int .i64 k ∧ s = .int .i64 (ksum (l.take k) 16) ∧ k ≤ n ∧ wr = w) (fun i _ _ => n - (intOf i).toNat)
    case atStart => exact ⟨0, rfl, by simp [ksum_nil], by omega, rfl⟩
    case round =>
      obtain ⟨k, rfl, rfl, hk, rfl⟩ := hrel
      by_cases hkn : k < n
      · obtain ⟨b, off, rfl, hbl, hc⟩ := HL.out.get (k := k) (by rw [hln.out]; exact hkn)
        have HS := Lib.hid (ksum_next (l := l) (j := k) (by rw [hln.out]; exact hkn) 16)
        have hx15 := H15.out k
        have hle := ksum_le (l.take (k + 1)) 16
        have hlt : (l.take (k + 1)).length ≤ 320 := by rw [List.length_take]; omega
        obtain ⟨x, hx⟩ : ∃ x, x = nth l k := ⟨_, rfl⟩
        rw [← hx] at hc HS hx15
        have HLe := Lib.hid (show ksum (l.take (k + 1)) 16 ≤ 200000000 by omega)
        clear hx hle hlt
        rcases Nat.eq_zero_or_pos x with rfl | h0
        · go_wp2
          go_roundw
          case rel => exact ⟨k + 1, by go_num, by rw [HS.out]; simp, by omega, trivial⟩
          case measure => simp [intOf]; omega
        · go_wp2
          go_roundw
          case rel =>
            refine ⟨k + 1, by go_num, ?_, by omega, trivial⟩
            have h := HS.out
            rw [if_pos (by omega)] at h
            rw [wrap_one _ _ (by rw [← h]; have := HLe.out; omega), h]
          case measure => simp [intOf]; omega
      · have hk8 := Lib.hid (show k = l.length by rw [hln.out]; omega)
        go_wp2
        go_ret
        exact ⟨ret_i64 (by rw [hk8.out, List.take_length]), rfl⟩
end Go.Proofs.YtgbdecnaamlekaaDoor.Ne
