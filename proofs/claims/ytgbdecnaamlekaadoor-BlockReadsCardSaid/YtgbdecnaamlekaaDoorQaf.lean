/-
  countByLength, kraft, firstCodes: arrays of sixteen ints.
  kraft, firstCodes: an array of sixteen ints handed in.
  uncodable and Kraft, and the reference's Kraft.
  lens.Codes: what is wrong, or the codes in a row of the call's own.
  The reference's Codes.
  Conditions: as each theorem says.
-/
import Derived.Test.YtgbdecnaamlekaaDoorQae
import Derived.Deep.RegionHeld3
import Derived.BigRegion
import Derived.Test.YtgbdecnaamlekaaDoorQag
import Derived.Laws.MakeOwn
import Derived.OwnWalk
namespace Go.Proofs.YtgbdecnaamlekaaDoor.Nc
open Go.RowKit Go.Proofs.YtgbdecnaamlekaaDoor.Na Go.Proofs.YtgbdecnaamlekaaDoor.Nm Go.Proofs.YtgbdecnaamlekaaDoor.Bw Go.Proofs.YtgbdecnaamlekaaDoor.Ni

theorem infoC : (Tryd.prog.info? 113).map (fun i => (i.zero, i.size)) = some (some (.agg (Array.replicate 16 (.int .i64 0))), 16) := by kernel_rfl
theorem infoA : (Tryd.prog.info? 112).map (fun i => (i.zero, i.size)) = some (some (.agg (Array.replicate 16 (.int .i64 0))), 16) := by kernel_rfl

/-- The row of lengths, in Nat. -/
def lens (w : World) (A : Option Addr) (l : List Nat) : Prop := row w A l.length (fun i => (nth l i : Int))
theorem lens.get {w : World} {A : Option Addr} {l : List Nat} (h : lens w A l) {k : Nat} (hk : k < l.length) : ∃ b off : Nat, A = some ⟨b, off, none⟩ ∧ b < w.heap.size ∧ w.cell? ⟨b, off + k, none⟩ = some (.int .i64 (nth l k : Int)) := h k hk
theorem lens.below {w w' : World} {A : Option Addr} {l : List Nat} (h : lens w A l) (k : Below w.heap.size w w') : lens w' A l := row.below h k

set_option maxRecDepth 100000 in
theorem count_any {A : Option Addr} {cap : Nat} {l : List Nat} (hn : l.length ≤ 320) (hl : ∀ i, nth l i ≤ 15) {w : World} (HC : Hid (lens w A l)) :
    Calls Tryd.prog 92 #[.slice A l.length cap] w fun e w' => e = .returned (.agg (arr 16 (fun i => (ct l i : Int)))) ∧ Below w.heap.size w w' := by
  obtain ⟨hz, hsz⟩ := zero_of_info infoC
  rw [arr_zero] at hz
  obtain ⟨n, hln⟩ : ∃ n, n = l.length := ⟨_, rfl⟩
  rw [← hln] at hn ⊢
  have HL := Lib.hid hln
  clear hln
  go_enter Tryd.func92, Tryd.ntmps92
  go_wp2
  go_loopw [7] (fun i wr => ∃ k : Nat, i = .int .i64 k ∧ k ≤ n ∧ Hid (Blk wr w.heap.size 113 (arr 16 (fun _ => 0))) ∧ Hid (Blk wr (w.heap.size + 1) 113 (arr 16 (fun i => (ct (l.take k) i : Int)))) ∧ Hid (Below w.heap.size w wr))
    (fun i _ => n - (intOf i).toNat)
  case atStart =>
    refine ⟨0, rfl, by omega, Lib.hid ?_, Lib.hid ?_, Lib.hid ?_⟩
    · exact (Blk.fresh w _ _).below (below_alloc _ _)
    · have := Blk.fresh (w.alloc (.cells (arr 16 (fun _ => 0)) 113)) 113 (arr 16 (fun _ => 0))
      rw [size_alloc] at this
      simpa [ct_nil] using this
    · exact grows (below_alloc _ _) (below_alloc _ _)
  case round =>
    obtain ⟨k, rfl, hk, HR, HT, HB⟩ := hrel
    by_cases hkn : k < n
    · obtain ⟨b, off, rfl, hbl, hc0⟩ := HC.out.get (k := k) (by rw [← HL.out]; exact hkn)
      have hc := (HB.out.cell (p := ⟨b, off + k, none⟩) hbl).trans hc0
      clear hc0 hz hsz
      obtain ⟨x, hx⟩ : ∃ x, x = nth l k := ⟨_, rfl⟩
      rw [← hx] at hc
      have hx15 : x ≤ 15 := by rw [hx]; exact hl k
      have HX := Lib.hid hx
      clear hx hl
      rcases Nat.eq_zero_or_pos x with rfl | h0
      · go_wp2
        go_roundw
        case rel =>
          refine ⟨k + 1, by go_num, by omega, HR, Lib.hid ?_, HB⟩
          have h := HT.out
          rw [arr_congr (g := fun i => (ct (l.take (k + 1)) i : Int)) (fun i _ => ?_)] at h
          · exact h
          · rw [ct_next (by rw [← HL.out]; exact hkn), if_neg (by have := HX.out; omega)]; rfl
        case measure => simp [intOf]; omega
      · obtain ⟨y, hy⟩ : ∃ y, y = ct (l.take k) x := ⟨_, rfl⟩
        have hy320 : y ≤ 320 := by
          have := ct_le (l.take k) x
          rw [List.length_take] at this; omega
        have hty : wr.cell? ⟨w.heap.size + 1, x, none⟩ = some (.int .i64 y) := by rw [HT.out.cell, arr_get _ (by omega), hy]
        have hfr := HT.out.frozen x
        have HY := Lib.hid hy
        clear hy
        go_wp2
        go_roundw
        case rel =>
          refine ⟨k + 1, by go_num, by omega, Lib.hid ?_, Lib.hid ?_, Lib.hid (HB.out.setCell (by simp) _)⟩
          · exact HR.out.apartStore (by simp)
          · have h := HT.out.store x (.int .i64 (y + 1))
            rw [arr_set, arr_congr (g := fun i => (ct (l.take (k + 1)) i : Int)) (fun i _ => ?_)] at h
            · exact h
            · rw [ct_next (by rw [← HL.out]; exact hkn), ← HX.out]
              by_cases e : i = x
              · rw [if_pos e, if_pos ⟨e, by omega⟩, e, HY.out]; omega
              · rw [if_neg e, if_neg (fun h => e h.1)]; rfl
        case measure => simp [intOf]; omega
    · have hk8 := Lib.hid (show k = l.length by rw [← HL.out]; omega)
      have HT' : Hid (Blk wr (w.heap.size + 1) 113 (arr 16 (fun i => (ct l i : Int)))) := by
        rw [hk8.out, List.take_length] at HT; exact HT
      have HZ := Lib.hid hsz
      clear hz hsz
      go_wp2_with (first | (refine wpList_load_row rfl 113 _ rfl (w.heap.size + 1) rfl _ _ _ _ HT'.out Tryd.underlying113 rfl (by rw [arr_size]; exact HZ.out) ?_) | (refine wpList_store_row rfl 113 _ _ rfl w.heap.size (arr 16 (fun i => (ct l i : Int))) rfl rfl _ _ HR.out (by rw [arr_size]; exact HZ.out) (by rw [arr_size, arr_size]) (arr_one 16 _) ?_))
      refine bodyPost_ret (v := .agg (arr 16 (fun i => (ct l i : Int)))) ?_ rfl ⟨rfl, Below_setRow HB.out (Nat.le_refl _) _⟩
      exact results_cell_row rfl _ _ w.heap.size 113 _ _ _ rfl (setRow_heap _ _ _ _ _ _ HR.out) Tryd.underlying113 rfl (by rw [arr_size]; exact HZ.out)
end Go.Proofs.YtgbdecnaamlekaaDoor.Nc
namespace Go.Proofs.YtgbdecnaamlekaaDoor.Nd
open Go.RowKit Go.Proofs.YtgbdecnaamlekaaDoor.Vm Go.Proofs.YtgbdecnaamlekaaDoor.Na Go.Proofs.YtgbdecnaamlekaaDoor.Nm Go.Proofs.YtgbdecnaamlekaaDoor.Bw Go.Proofs.YtgbdecnaamlekaaDoor.Ni Go.Proofs.YtgbdecnaamlekaaDoor.Nc

theorem wrap_add_shl (s y d : Nat) (h : s + y * 2 ^ d ≤ 4611686018427387904) : wrap64 ((s : Int) + wrap64 ((y : Int) * 2 ^ d)) = ((s + y * 2 ^ d : Nat) : Int) := by
  have e : ((y : Int) * 2 ^ d) = ((y * 2 ^ d : Nat) : Int) := by simp
  rw [e]
  obtain ⟨m, hm⟩ : ∃ m, m = y * 2 ^ d := ⟨_, rfl⟩
  rw [← hm] at h ⊢
  rw [wrap64_in (n := (m : Int)) (by omega) (by omega), wrap64_in (by omega) (by omega)]; simp
theorem first_zero (l : List Nat) : arr 16 (fun _ => 0) = arr 16 (fun i => if i ≤ 0 then (fst l i : Int) else 0) := arr_congr (fun i _ => by
  by_cases e : i ≤ 0
  · have e0 : i = 0 := by omega
    subst e0; rfl
  · rw [if_neg e])
theorem wrap_two (x y : Nat) (h : x + y ≤ 1000000000000) : wrap64 (2 * ((x : Int) + y)) = ((2 * (x + y) : Nat) : Int) := by
  rw [wrap64_in (by omega) (by omega)]; simp

set_option maxRecDepth 100000 in
theorem kraft_any {l : List Nat} (hn : l.length ≤ 320) (w : World) :
    Calls Tryd.prog 93 #[.agg (arr 16 (fun i => (ct l i : Int)))] w fun e w' => e = .returned (.int .i64 (ksum l 16)) ∧ Below w.heap.size w w' := by
  obtain ⟨hz, hsz⟩ := zero_of_info infoC
  go_enter Tryd.func93, Tryd.ntmps93
  go_wp2
  go_loopw [5, 3] (fun i s wr => ∃ k : Nat, i = .int .i64 k ∧ s = .int .i64 (ksum l k) ∧ k ≤ 16 ∧ Hid (Blk wr w.heap.size 113 (arr 16 (fun i => (ct l i : Int)))) ∧ Hid (Below w.heap.size w wr))
    (fun i _ _ => 16 - (intOf i).toNat)
  case atStart =>
    exact ⟨0, rfl, rfl, by omega, Lib.hid (Blk.fresh w _ _), Lib.hid (below_alloc _ _)⟩
  case round =>
    obtain ⟨k, rfl, rfl, hk, HT, HB⟩ := hrel
    clear hz hsz
    by_cases hk16 : k < 16
    · obtain ⟨y, hy⟩ : ∃ y, y = ct l k := ⟨_, rfl⟩
      have hy320 : y ≤ 320 := by rw [hy]; exact Nat.le_trans (ct_le l k) hn
      have hty : wr.cell? ⟨w.heap.size, k, none⟩ = some (.int .i64 y) := by rw [HT.out.cell, arr_get _ hk16, hy]
      have HY := Lib.hid hy
      clear hy
      go_wp2
      go_roundw
      case rel =>
        refine ⟨k + 1, by go_num, ?_, by omega, HT, HB⟩
        rw [wrap_add_shl _ _ _ (by
          have := ksum_le l (k + 1)
          rw [ksum, ← HY.out] at this
          have h2 : (k + 1) * (l.length * 32768) ≤ 16 * (320 * 32768) := Nat.mul_le_mul (by omega) (Nat.mul_le_mul_right _ hn)
          omega), HY.out, ksum]
      case measure => simp [intOf]; omega
    · have hk8 := Lib.hid (show k = 16 by omega)
      go_wp2
      go_ret
      exact ⟨ret_i64 (by rw [hk8.out]), HB.out⟩

set_option maxRecDepth 100000 in
theorem first_any {l : List Nat} (hn : l.length ≤ 320) (w : World) :
    Calls Tryd.prog 94 #[.agg (arr 16 (fun i => (ct l i : Int)))] w fun e w' => e = .returned (.agg (arr 16 (fun i => (fst l i : Int)))) ∧ Below w.heap.size w w' := by
  obtain ⟨hz, hsz⟩ := zero_of_info infoA
  obtain ⟨hz', hsz'⟩ := zero_of_info infoC
  rw [arr_zero] at hz
  go_enter Tryd.func94, Tryd.ntmps94
  go_wp2
  go_loopw [5] (fun i wr => ∃ k : Nat, i = .int .i64 k ∧ k ≤ 15 ∧ Hid (Blk wr w.heap.size 113 (arr 16 (fun i => (ct l i : Int)))) ∧ Hid (Blk wr (w.heap.size + 1) 112 (arr 16 (fun _ => 0)))
      ∧ Hid (Blk wr (w.heap.size + 1 + 1) 112 (arr 16 (fun i => if i ≤ k then (fst l i : Int) else 0))) ∧ Hid (Below w.heap.size w wr))
    (fun i _ => 16 - (intOf i).toNat)
  case atStart =>
    obtain ⟨s1, s2, s3, s4⟩ := start3 w 113 112 112 (arr 16 (fun i => (ct l i : Int))) (arr 16 (fun _ => 0)) (arr 16 (fun _ => 0))
    exact ⟨0, rfl, by omega, Lib.hid s1, Lib.hid s2, Lib.hid (first_zero l ▸ s3), Lib.hid s4⟩
  case round =>
    obtain ⟨k, rfl, hk, HC, HR, HT, HB⟩ := hrel
    by_cases hk16 : k < 15
    · clear hz hsz hz' hsz'
      obtain ⟨y, hy⟩ : ∃ y, y = ct l k := ⟨_, rfl⟩
      obtain ⟨x, hx⟩ : ∃ x, x = fst l k := ⟨_, rfl⟩
      have hb : x + y ≤ 65536 * 320 := by
        have := fst_le l k
        have h2 : 2 ^ (k + 1) * l.length ≤ 2 ^ 16 * 320 := Nat.mul_le_mul (Nat.pow_le_pow_right (by omega) (by omega)) hn
        omega
      have hty : wr.cell? ⟨w.heap.size, k, none⟩ = some (.int .i64 y) := by rw [HC.out.cell, arr_get _ (by omega), hy]
      have htx : wr.cell? ⟨w.heap.size + 1 + 1, k, none⟩ = some (.int .i64 x) := by rw [HT.out.cell, arr_get _ (by omega), if_pos (Nat.le_refl _), hx]
      have htz : wr.cell? ⟨w.heap.size + 1 + 1, k + 1, none⟩ = some (.int .i64 0) := by rw [HT.out.cell, arr_get _ (by omega), if_neg (by omega)]
      have hfr := HT.out.frozen (k + 1)
      have HY := Lib.hid hy
      have HX := Lib.hid hx
      clear hy hx
      go_wp2
      go_region
      go_wp2
      go_roundw
      case rel =>
        refine ⟨k + 1, by go_num, by omega, Lib.hid ?_, Lib.hid ?_, Lib.hid ?_, Lib.hid ?_⟩
        · exact HC.out.apartStore (by show _ ≠ _ + 1 + 1; omega)
        · exact HR.out.apartStore (by show _ ≠ _ + 1 + 1; omega)
        · have h := HT.out.store (k + 1) (.int .i64 (2 * ((x : Int) + y)))
          rw [arr_set, arr_congr (g := fun i => if i ≤ k + 1 then (fst l i : Int) else 0) (fun i _ => ?_)] at h
          · exact h
          · by_cases e : i = k + 1
            · rw [if_pos e, if_pos (by omega), e, fst, ← HX.out, ← HY.out]; simp
            · rw [if_neg e]
              by_cases e2 : i ≤ k
              · rw [if_pos e2, if_pos (by omega)]
              · rw [if_neg e2, if_neg (by omega)]
        · exact below_drew (HB.out.setCell (by show _ ≤ _ + 1 + 1; omega) _)
      case measure => simp [intOf]; omega
    · have hk8 := Lib.hid (show k = 15 by omega)
      have HT' : Hid (Blk wr (w.heap.size + 1 + 1) 112 (arr 16 (fun i => (fst l i : Int)))) := by
        rw [arr_congr (g := fun i => (fst l i : Int)) (fun i hi => if_pos (by have := hk8.out; omega))] at HT; exact HT
      have HZ := Lib.hid hsz
      clear hz hsz hz' hsz'
      go_wp2_with (first | (refine wpList_load_row rfl 112 _ rfl (w.heap.size + 1 + 1) rfl _ _ _ _ HT'.out Tryd.underlying112 rfl (by rw [arr_size]; exact HZ.out) ?_) | (refine wpList_store_row rfl 112 _ _ rfl (w.heap.size + 1) (arr 16 (fun i => (fst l i : Int))) rfl rfl _ _ HR.out (by rw [arr_size]; exact HZ.out) (by rw [arr_size, arr_size]) (arr_one 16 _) ?_))
      refine bodyPost_ret (v := .agg (arr 16 (fun i => (fst l i : Int)))) ?_ rfl ⟨rfl, Below_setRow HB.out (by omega) _⟩
      exact results_cell_row rfl _ _ (w.heap.size + 1) 112 _ _ _ rfl (setRow_heap _ _ _ _ _ _ HR.out) Tryd.underlying112 rfl (by rw [arr_size]; exact HZ.out)
end Go.Proofs.YtgbdecnaamlekaaDoor.Nd
namespace Go.Proofs.YtgbdecnaamlekaaDoor.Ne
open Go.RowKit Go.Proofs.YtgbdecnaamlekaaDoor.Vm Go.Proofs.YtgbdecnaamlekaaDoor.Na Go.Proofs.YtgbdecnaamlekaaDoor.Nm Go.Proofs.YtgbdecnaamlekaaDoor.Bw Go.Proofs.YtgbdecnaamlekaaDoor.Ni Go.Proofs.YtgbdecnaamlekaaDoor.Nc Go.Proofs.YtgbdecnaamlekaaDoor.Nd

/-- The lengths as natural numbers. -/
def L (n : Nat) (f : Nat → Int) : List Nat := (List.range n).map (fun i => (f i).toNat)
theorem L_length (n : Nat) (f : Nat → Int) : (L n f).length = n := by simp [L]
theorem L_nth {n : Nat} {f : Nat → Int} {i : Nat} (h : i < n) : nth (L n f) i = (f i).toNat := by simp [nth, L, List.getD_eq_getElem?_getD, h]
theorem L_out {n : Nat} {f : Nat → Int} {i : Nat} (h : ¬ i < n) : nth (L n f) i = 0 := by simp [nth, L, List.getD_eq_getElem?_getD, h]
theorem L_le {n : Nat} {f : Nat → Int} (h : ∀ i, i < n → 0 ≤ f i ∧ f i ≤ 15) (i : Nat) : nth (L n f) i ≤ 15 := by
  by_cases hi : i < n
  · rw [L_nth hi]; have := h i hi; omega
  · rw [L_out hi]; omega
theorem L_eq {n : Nat} {f : Nat → Int} (h : ∀ i, i < n → 0 ≤ f i ∧ f i ≤ 15) {i : Nat} (hi : i < n) : f i = (nth (L n f) i : Int) := by
  rw [L_nth hi]; have := h i hi; omega
theorem L_row {w : World} {A : Option Addr} {n : Nat} {f : Nat → Int} (h : ∀ i, i < n → 0 ≤ f i ∧ f i ≤ 15) (hr : row w A n f) : lens w A (L n f) := by
  unfold lens; rw [L_length]; exact hr.congr (fun i hi => L_eq h hi)

/-- What is wrong of lengths that are to have codes. -/
def err (n : Nat) (f : Nat → Int) : Int := if bad n f ≠ 0 then bad n f else if 32768 < ksum (L n f) 16 then 7 else 0
theorem err_bad {n : Nat} {f : Nat → Int} (h : bad n f ≠ 0) : err n f = bad n f := if_pos h
theorem err_over {n : Nat} {f : Nat → Int} (h : bad n f = 0) (h2 : 32768 < ksum (L n f) 16) : err n f = 7 := by unfold err; rw [if_neg (by omega), if_pos h2]
theorem err_ok {n : Nat} {f : Nat → Int} (h : bad n f = 0) (h2 : ¬ 32768 < ksum (L n f) 16) : err n f = 0 := by unfold err; rw [if_neg (by omega), if_neg h2]
theorem err_zero {n : Nat} {f : Nat → Int} (h : err n f = 0) : n ≤ 320 ∧ (∀ i, i < n → 0 ≤ f i ∧ f i ≤ 15) ∧ ksum (L n f) 16 ≤ 32768 := by
  rcases bad_cases n f with ⟨hb, _⟩ | ⟨hb, _⟩ | ⟨hb, h1, h2⟩
  · rw [err_bad (by omega)] at h; omega
  · rw [err_bad (by omega)] at h; omega
  · refine ⟨h1, h2, ?_⟩
    by_cases h3 : 32768 < ksum (L n f) 16
    · rw [err_over hb h3] at h; omega
    · omega
theorem ksum_small {n : Nat} {f : Nat → Int} (h : n ≤ 320) : ksum (L n f) 16 ≤ 200000000 := by
  have := ksum_le (L n f) 16
  rw [L_length] at this
  omega

theorem count_n {A : Option Addr} {n cap : Nat} {f : Nat → Int} (hn : n ≤ 320) (hf : ∀ i, i < n → 0 ≤ f i ∧ f i ≤ 15) {w : World} (HC : Hid (row w A n f)) :
    Calls Tryd.prog 92 #[.slice A n cap] w fun e w' => e = .returned (.agg (arr 16 (fun i => (ct (L n f) i : Int)))) ∧ Below w.heap.size w w' := by
  have h := count_any (A := A) (cap := cap) (l := L n f) (by rw [L_length]; exact hn) (L_le hf) (w := w) (Lib.hid (L_row hf HC.out))
  rw [L_length] at h
  exact h
theorem kraft_n {n : Nat} {f : Nat → Int} (hn : n ≤ 320) (w : World) :
    Calls Tryd.prog 93 #[.agg (arr 16 (fun i => (ct (L n f) i : Int)))] w fun e w' => e = .returned (.int .i64 (ksum (L n f) 16)) ∧ Below w.heap.size w w' :=
  kraft_any (by rw [L_length]; exact hn) w

set_option maxRecDepth 100000 in
theorem uncodable_any {A : Option Addr} {n cap : Nat} {f : Nat → Int} (hn : n ≤ 9223372036854775807) {w : World} (HC : Hid (row w A n f)) :
    Calls Tryd.prog 91 #[.slice A n cap] w fun e w' => e = .returned (.int .i64 (err n f)) ∧ Below w.heap.size w w' := by
  have hI := invalid_any (cap := cap) hn HC
  rcases bad_cases n f with ⟨hb, _⟩ | ⟨hb, _⟩ | ⟨hb, h1, h2⟩
  · rw [err_bad (by omega), hb]
    rw [hb] at hI
    have HI := Lib.hid hI
    clear hI hb
    go_enter Tryd.func91, Tryd.ntmps91
    go_wp2_with fail
    refine HI.out.mono ?_
    rintro e w' ⟨rfl, rfl⟩
    go_wp2
    go_ret
    exact ⟨rfl, Below.refl _ _⟩
  · rw [err_bad (by omega), hb]
    rw [hb] at hI
    have HI := Lib.hid hI
    clear hI hb
    go_enter Tryd.func91, Tryd.ntmps91
    go_wp2_with fail
    refine HI.out.mono ?_
    rintro e w' ⟨rfl, rfl⟩
    go_wp2
    go_ret
    exact ⟨rfl, Below.refl _ _⟩
  · rw [hb] at hI
    have HI := Lib.hid hI
    have HF := Lib.hid h2
    have HBad := Lib.hid hb
    have hk := ksum_small (n := n) (f := f) h1
    clear hI hb h2
    by_cases ho : 32768 < ksum (L n f) 16
    · rw [err_over HBad.out ho]
      go_enter Tryd.func91, Tryd.ntmps91
      go_wp2_with fail
      refine HI.out.mono ?_
      rintro e w' ⟨rfl, rfl⟩
      go_wp2_with fail
      refine (count_n h1 HF.out HC).mono ?_
      rintro e w1 ⟨rfl, b1⟩
      go_wp2_with fail
      refine (kraft_n h1 _).mono ?_
      rintro e w2 ⟨rfl, b2⟩
      go_wp2
      go_ret
      exact ⟨rfl, grows b1 b2⟩
    · rw [err_ok HBad.out ho]
      go_enter Tryd.func91, Tryd.ntmps91
      go_wp2_with fail
      refine HI.out.mono ?_
      rintro e w' ⟨rfl, rfl⟩
      go_wp2_with fail
      refine (count_n h1 HF.out HC).mono ?_
      rintro e w1 ⟨rfl, b1⟩
      go_wp2_with fail
      refine (kraft_n h1 _).mono ?_
      rintro e w2 ⟨rfl, b2⟩
      go_wp2
      go_ret
      exact ⟨rfl, grows b1 b2⟩

/-- What Kraft answers. -/
def kra (n : Nat) (f : Nat → Int) : Int := if bad n f ≠ 0 then -1 else (ksum (L n f) 16 : Int)
theorem kra_bad {n : Nat} {f : Nat → Int} (h : bad n f ≠ 0) : kra n f = -1 := if_pos h
theorem kra_ok {n : Nat} {f : Nat → Int} (h : bad n f = 0) : kra n f = (ksum (L n f) 16 : Int) := if_neg (by omega)
theorem wrap_one (s d : Nat) (h : s + 2 ^ d ≤ 1000000000000) : wrap64 ((s : Int) + wrap64 (2 ^ d)) = ((s + 2 ^ d : Nat) : Int) := by
  have e : ((2 : Int) ^ d) = ((2 ^ d : Nat) : Int) := by simp
  rw [e]
  obtain ⟨m, hm⟩ : ∃ m, m = 2 ^ d := ⟨_, rfl⟩
  rw [← hm] at h ⊢
  rw [wrap64_in (n := (m : Int)) (by omega) (by omega), wrap64_in (by omega) (by omega)]; simp

set_option maxRecDepth 100000 in
theorem rKraft_any {A : Option Addr} {n cap : Nat} {f : Nat → Int} (hn : n ≤ 9223372036854775807) {w : World} (HC : Hid (row w A n f)) :
    Calls Tryd.prog 82 #[.slice A n cap] w fun e w' => e = .returned (.int .i64 (kra n f)) ∧ w = w' := by
  have hI := wrong_any (cap := cap) hn HC
  rcases bad_cases n f with ⟨hb, _⟩ | ⟨hb, _⟩ | ⟨hb, h1, h2⟩
  · rw [kra_bad (by omega)]
    rw [hb] at hI
    have HI := Lib.hid hI
    clear hI hb
    go_enter Tryd.func82, Tryd.ntmps82
    go_wp2_with fail
    refine HI.out.mono ?_
    rintro e w' ⟨rfl, rfl⟩
    go_wp2
    go_ret
    exact ⟨rfl, rfl⟩
  · rw [kra_bad (by omega)]
    rw [hb] at hI
    have HI := Lib.hid hI
    clear hI hb
    go_enter Tryd.func82, Tryd.ntmps82
    go_wp2_with fail
    refine HI.out.mono ?_
    rintro e w' ⟨rfl, rfl⟩
    go_wp2
    go_ret
    exact ⟨rfl, rfl⟩
  · rw [hb] at hI
    have HI := Lib.hid hI
    have HL := Lib.hid (L_row h2 HC.out)
    have H15 := Lib.hid (L_le h2)
    have HF := Lib.hid h2
    rw [kra_ok hb]
    obtain ⟨l, hl⟩ : ∃ l, l = L n f := ⟨_, rfl⟩
    have hln : Hid (l.length = n) := Lib.hid (by rw [hl, L_length])
    rw [← hl] at HL H15 ⊢
    clear hI hb h2 hl HC HF
    go_enter Tryd.func82, Tryd.ntmps82
    go_wp2_with fail
    refine HI.out.mono ?_
    rintro e w' ⟨rfl, rfl⟩
    go_wp2
    go_loopw [4, 3] (fun i s wr => ∃ k : Nat, i = .int .i64 k ∧ s = .int .i64 (ksum (l.take k) 16) ∧ k ≤ n ∧ wr = w) (fun i _ _ => n - (intOf i).toNat)
    case atStart => exact ⟨0, rfl, by simp [ksum_nil], by omega, rfl⟩
    case round =>
      obtain ⟨k, rfl, rfl, hk, rfl⟩ := hrel
      by_cases hkn : k < n
      · obtain ⟨b, off, rfl, hbl, hc⟩ := HL.out.get (k := k) (by rw [hln.out]; exact hkn)
        have HS := Lib.hid (ksum_next (l := l) (j := k) (by rw [hln.out]; exact hkn) 16)
        have hx15 := H15.out k
        have hle := ksum_le (l.take (k + 1)) 16
        have hlt : (l.take (k + 1)).length ≤ 320 := by rw [List.length_take]; omega
        obtain ⟨x, hx⟩ : ∃ x, x = nth l k := ⟨_, rfl⟩
        rw [← hx] at hc HS hx15
        have HLe := Lib.hid (show ksum (l.take (k + 1)) 16 ≤ 200000000 by omega)
        clear hx hle hlt
        rcases Nat.eq_zero_or_pos x with rfl | h0
        · go_wp2
          go_roundw
          case rel => exact ⟨k + 1, by go_num, by rw [HS.out]; simp, by omega, trivial⟩
          case measure => simp [intOf]; omega
        · go_wp2
          go_roundw
          case rel =>
            refine ⟨k + 1, by go_num, ?_, by omega, trivial⟩
            have h := HS.out
            rw [if_pos (by omega)] at h
            rw [wrap_one _ _ (by rw [← h]; have := HLe.out; omega), h]
          case measure => simp [intOf]; omega
      · have hk8 := Lib.hid (show k = l.length by rw [hln.out]; omega)
        go_wp2
        go_ret
        exact ⟨ret_i64 (by rw [hk8.out, List.take_length]), rfl⟩
end Go.Proofs.YtgbdecnaamlekaaDoor.Ne
namespace Go.Proofs.YtgbdecnaamlekaaDoor.Nf
open Go.RowKit Go.Proofs.YtgbdecnaamlekaaDoor.Vm Go.Proofs.YtgbdecnaamlekaaDoor.Na Go.Proofs.YtgbdecnaamlekaaDoor.Nm Go.Proofs.YtgbdecnaamlekaaDoor.Bw Go.Proofs.YtgbdecnaamlekaaDoor.Ni Go.Proofs.YtgbdecnaamlekaaDoor.Nc Go.Proofs.YtgbdecnaamlekaaDoor.Nd Go.Proofs.YtgbdecnaamlekaaDoor.Ne

theorem infoI : (Tryd.prog.info? 3).map (fun i => (i.zero, i.size, i.bytes)) = some (some (.int .i64 0), 1, 8) := by kernel_rfl
theorem made (n : Nat) (hn : n ≤ 1000000) (u : World) : (Instr.makeSlice 31 (.int .i64 (n : Int)) (.int .i64 (n : Int))).run Tryd.prog u = .ok (.slice (some ⟨u.heap.size, 0, none⟩) n n) (u.alloc (.cells (arr n (fun _ => 0)) 3)) := by
  obtain ⟨i0, hi, hz0, hz1, hz2⟩ := info_parts infoI
  have h := run_make (P := Tryd.prog) u 31 3 i0 (.int .i64 0) Tryd.underlying31 hi hz0 .i64 .i64 (n : Int) (n : Int) (by omega) (by omega) (by rw [hz2]; omega) (by omega)
  have e : madeCells (Value.int .i64 0).cells (n * i0.size) = arr n (fun _ => 0) := by
    rw [hz1]
    apply Array.ext
    · simp [madeCells, arr]
    · intro j h1 h2
      simp [madeCells, arr, Value.cells]
      simp [Nat.mod_one]
  simp only [Int.toNat_natCast, e] at h
  exact h

theorem first_n {n : Nat} {f : Nat → Int} (hn : n ≤ 320) (w : World) :
    Calls Tryd.prog 94 #[.agg (arr 16 (fun i => (ct (L n f) i : Int)))] w fun e w' => e = .returned (.agg (arr 16 (fun i => (fst (L n f) i : Int)))) ∧ Below w.heap.size w w' :=
  first_any (by rw [L_length]; exact hn) w

set_option maxRecDepth 100000 in
theorem Codes_no {A : Option Addr} {n cap : Nat} {f : Nat → Int} (hn : n ≤ 9223372036854775807) (he : err n f ≠ 0) {w : World} (HC : Hid (row w A n f)) :
    Calls Tryd.prog 79 #[.slice A n cap] w fun e w' => e = .returned (.tuple #[.slice none 0 0, .int .i64 (err n f)]) ∧ Below w.heap.size w w' := by
  have HU := Lib.hid (uncodable_any (cap := cap) hn HC)
  obtain ⟨e, hee⟩ : ∃ e, e = err n f := ⟨_, rfl⟩
  rw [← hee] at HU he ⊢
  clear hee HC
  go_enter Tryd.func79, Tryd.ntmps79
  go_wp2_with fail
  refine HU.out.mono ?_
  rintro e w' ⟨rfl, b1⟩
  go_wp2
  go_ret2
  exact ⟨rfl, b1⟩

theorem next_zero (l : List Nat) : arr 16 (fun i => (fst l i : Int)) = arr 16 (fun i => ((fst l i + ct (l.take 0) i : Nat) : Int)) := arr_congr (fun i _ => by simp [ct_nil])
theorem codes_zero (l : List Nat) (n : Nat) : arr n (fun _ => 0) = arr n (fun i => if i < 0 then (code l i : Int) else 0) := arr_congr (fun i _ => by rw [if_neg (by omega)])

set_option maxHeartbeats 400000 in
set_option maxRecDepth 100000 in
theorem Codes_ok {A : Option Addr} {n cap : Nat} {f : Nat → Int} (he : err n f = 0) {w : World} (HC : Hid (row w A n f)) :
    Calls Tryd.prog 79 #[.slice A n cap] w fun e w' => ∃ g, e = .returned (.tuple #[.slice (some ⟨g, 0, none⟩) n n, .int .i64 0]) ∧ Blk w' g 3 (arr n (fun i => (code (L n f) i : Int))) ∧ w.heap.size ≤ g ∧ Below w.heap.size w w' := by
  obtain ⟨h1, h2, h3⟩ := err_zero he
  have hU := uncodable_any (cap := cap) (by omega) HC
  rw [he] at hU
  have HU := Lib.hid hU
  have HF := Lib.hid h2
  have H15 := Lib.hid (L_le h2)
  have HR := Lib.hid (L_row h2 HC.out)
  obtain ⟨hz, hsz⟩ := zero_of_info infoA
  rw [arr_zero] at hz
  have hmk := made n (by omega)
  have HZ := Lib.hid hsz
  clear hU h2 h3 he hsz
  go_enter Tryd.func79, Tryd.ntmps79
  go_wp2_with fail
  refine HU.out.mono ?_
  rintro e w1 ⟨rfl, b1⟩
  have HC1 := Lib.hid (HC.out.below b1)
  have B1 := Lib.hid b1
  clear b1
  go_wp2_with fail
  refine (count_n h1 HF.out HC1).mono ?_
  rintro e w2 ⟨rfl, b2⟩
  have B2 := Lib.hid (grows B1.out b2)
  clear b2
  go_wp2_with fail
  refine (first_n h1 _).mono ?_
  rintro e w3 ⟨rfl, b3⟩
  have B3 := Lib.hid (grows B2.out b3)
  clear b3
  obtain ⟨l, hl⟩ : ∃ l, l = L n f := ⟨_, rfl⟩
  have hln : Hid (l.length = n) := Lib.hid (by rw [hl, L_length])
  rw [← hl] at H15 HR ⊢
  obtain ⟨F, hF⟩ : ∃ F, F = arr 16 (fun i => (fst l i : Int)) := ⟨_, rfl⟩
  obtain ⟨Z, hZ⟩ : ∃ Z, Z = arr 16 (fun _ => 0) := ⟨_, rfl⟩
  have q1 := Lib.hid (show (Tryd.prog.info? 112).map (·.size) = some F.size by rw [hF, arr_size]; exact HZ.out)
  have q2 := Lib.hid (show Z.size = F.size by rw [hF, hZ, arr_size, arr_size])
  have q3 := Lib.hid (show F.all (·.oneCell') = true by rw [hF]; exact arr_one 16 _)
  rw [← hF]
  rw [← hZ] at hz
  have HFF := Lib.hid hF
  have HLL := Lib.hid hl
  clear hF hZ hl
  go_wp2_with (refine wpList_store_row rfl 112 _ _ rfl w3.heap.size F rfl rfl _ _ (Blk.fresh w3 112 Z) q1.out q2.out q3.out ?_; rw [World.setRow_alloc_new])
  go_loopw [22] (fun i wr => ∃ k : Nat, i = .int .i64 k ∧ k ≤ n ∧ Hid (Blk wr w3.heap.size 112 (arr 16 (fun i => ((fst l i + ct (l.take k) i : Nat) : Int)))) ∧ Hid (Blk wr (w3.heap.size + 1) 3 (arr n (fun i => if i < k then (code l i : Int) else 0))) ∧ Hid (Below w.heap.size w wr))
    (fun i _ => n - (intOf i).toNat)
  case atStart =>
    have s1 := (Blk.fresh w3 112 F).below (below_alloc _ (.cells (arr n (fun _ => 0)) 3))
    have s2 := Blk.fresh (w3.alloc (.cells F 112)) 3 (arr n (fun _ => 0))
    rw [size_alloc, codes_zero l] at s2
    rw [HFF.out, next_zero] at s1
    refine ⟨0, rfl, by omega, Lib.hid ?_, Lib.hid ?_, Lib.hid (grows B3.out (grows (below_alloc _ _) (below_alloc _ _)))⟩
    · rw [HFF.out, next_zero]; exact s1
    · rw [codes_zero l]; exact s2
  case round =>
    obtain ⟨k, rfl, hk, HN, HT, HB⟩ := hrel
    clear hz hmk
    have HG := Lib.hid (show w.heap.size ≤ w3.heap.size from B3.out.size)
    by_cases hkn : k < n
    · have hkl : Hid (k < l.length) := Lib.hid (by rw [hln.out]; exact hkn)
      obtain ⟨b, off, rfl, hbl, hc0⟩ := HR.out.get (k := k) hkl.out
      have hc := (HB.out.cell (p := ⟨b, off + k, none⟩) hbl).trans hc0
      clear hc0
      have HCode : Hid (code l k = fst l (nth l k) + ct (l.take k) (nth l k)) := Lib.hid rfl
      obtain ⟨x, hx⟩ : ∃ x, x = nth l k := ⟨_, rfl⟩
      rw [← hx] at hc HCode
      have hx15 : x ≤ 15 := by rw [hx]; exact H15.out k
      have HX := Lib.hid hx
      clear hx
      rcases Nat.eq_zero_or_pos x with rfl | h0
      · go_wp2
        go_roundw
        case rel =>
          refine ⟨k + 1, by go_num, by omega, Lib.hid ?_, Lib.hid ?_, HB⟩
          · have h := HN.out
            rw [arr_congr (g := fun i => ((fst l i + ct (l.take (k + 1)) i : Nat) : Int)) (fun i _ => ?_)] at h
            · exact h
            · rw [ct_next hkl.out, if_neg (by have := HX.out; omega)]; rfl
          · have h := HT.out
            rw [arr_congr (g := fun i => if i < k + 1 then (code l i : Int) else 0) (fun i _ => ?_)] at h
            · exact h
            · by_cases e : i < k
              · rw [if_pos e, if_pos (by omega)]
              · rw [if_neg e]
                by_cases e2 : i = k
                · rw [if_pos (by omega), e2, HCode.out]; rfl
                · rw [if_neg (by omega)]
        case measure => simp [intOf]; omega
      · obtain ⟨y, hy⟩ : ∃ y, y = fst l x + ct (l.take k) x := ⟨_, rfl⟩
        have hyb : y ≤ 65536 * 320 := by
          have := fst_le l x
          have h3 := ct_take_le (l := l) (j := k) x
          have h2 : 2 ^ (x + 1) * l.length ≤ 2 ^ 16 * 320 := Nat.mul_le_mul (Nat.pow_le_pow_right (by omega) (by omega)) (by rw [hln.out]; exact h1)
          omega
        have hty : wr.cell? ⟨w3.heap.size, x, none⟩ = some (.int .i64 y) := by rw [HN.out.cell, arr_get _ (by omega), hy]
        have hfr := HN.out.frozen x
        have htz : wr.cell? ⟨w3.heap.size + 1, k, none⟩ = some (.int .i64 0) := by rw [HT.out.cell, arr_get _ (by omega), if_neg (by omega)]
        have hfz := HT.out.frozen k
        rw [← hy] at HCode
        have HY := Lib.hid hy
        clear hy
        go_wp2
        go_roundw
        case rel =>
          refine ⟨k + 1, by go_num, by omega, Lib.hid ?_, Lib.hid ?_, Lib.hid ((HB.out.setCell (by have := HG.out; show _ ≤ _ + 1; omega) _).setCell HG.out _)⟩
          · have h := (HN.out.apartStore (p := ⟨w3.heap.size + 1, k, none⟩) (u := .int .i64 y) (show w3.heap.size ≠ w3.heap.size + 1 by omega)).store x (.int .i64 (y + 1))
            rw [arr_set, arr_congr (g := fun i => ((fst l i + ct (l.take (k + 1)) i : Nat) : Int)) (fun i _ => ?_)] at h
            · exact h
            · rw [ct_next hkl.out, ← HX.out]
              by_cases e : i = x
              · rw [if_pos e, if_pos ⟨e, by omega⟩, e, HY.out]; omega
              · rw [if_neg e, if_neg (fun h => e h.1)]; rfl
          · have h := (HT.out.store k (.int .i64 y)).apartStore (p := ⟨w3.heap.size, x, none⟩) (u := .int .i64 (y + 1)) (show w3.heap.size + 1 ≠ w3.heap.size by omega)
            rw [arr_set, arr_congr (g := fun i => if i < k + 1 then (code l i : Int) else 0) (fun i _ => ?_)] at h
            · exact h
            · by_cases e : i = k
              · rw [if_pos e, if_pos (by omega), e, HCode.out]
              · rw [if_neg e]
                by_cases e2 : i < k
                · rw [if_pos e2, if_pos (by omega)]
                · rw [if_neg e2, if_neg (by omega)]
        case measure => simp [intOf]; omega
    · have hk8 := Lib.hid (show k = n by omega)
      have HT' : Hid (Blk wr (w3.heap.size + 1) 3 (arr n (fun i => (code l i : Int)))) := by
        rw [arr_congr (g := fun i => (code l i : Int)) (fun i hi => if_pos (by have := hk8.out; omega))] at HT; exact HT
      go_wp2
      go_ret2
      exact ⟨w3.heap.size + 1, rfl, by rw [← HLL.out]; exact HT'.out, by have := HG.out; omega, HB.out⟩
end Go.Proofs.YtgbdecnaamlekaaDoor.Nf
namespace Go.Proofs.YtgbdecnaamlekaaDoor.Ng
open Go.RowKit Go.Proofs.YtgbdecnaamlekaaDoor.Vm Go.Proofs.YtgbdecnaamlekaaDoor.Na Go.Proofs.YtgbdecnaamlekaaDoor.Nm Go.Proofs.YtgbdecnaamlekaaDoor.Bw Go.Proofs.YtgbdecnaamlekaaDoor.Ni Go.Proofs.YtgbdecnaamlekaaDoor.Nc Go.Proofs.YtgbdecnaamlekaaDoor.Nd Go.Proofs.YtgbdecnaamlekaaDoor.Ne Go.Proofs.YtgbdecnaamlekaaDoor.Nf

set_option maxRecDepth 100000 in
theorem rCodes_no {A : Option Addr} {n cap : Nat} {f : Nat → Int} (hn : n ≤ 9223372036854775807) (he : err n f ≠ 0) {w : World} (HC : Hid (row w A n f)) :
    Calls Tryd.prog 81 #[.slice A n cap] w fun e w' => e = .returned (.tuple #[.slice none 0 0, .int .i64 (err n f)]) ∧ Below w.heap.size w w' := by
  have hW := wrong_any (cap := cap) hn HC
  have hK := rKraft_any (cap := cap) hn HC
  rcases bad_cases n f with ⟨hb, _⟩ | ⟨hb, _⟩ | ⟨hb, h1, h2⟩
  · rw [err_bad (by omega), hb]
    rw [hb] at hW
    have HW := Lib.hid hW
    clear hW hb hK he
    go_enter Tryd.func81, Tryd.ntmps81
    go_wp2_with fail
    refine HW.out.mono ?_
    rintro e w' ⟨rfl, rfl⟩
    go_wp2
    go_ret2
    exact ⟨rfl, Below.refl _ _⟩
  · rw [err_bad (by omega), hb]
    rw [hb] at hW
    have HW := Lib.hid hW
    clear hW hb hK he
    go_enter Tryd.func81, Tryd.ntmps81
    go_wp2_with fail
    refine HW.out.mono ?_
    rintro e w' ⟨rfl, rfl⟩
    go_wp2
    go_ret2
    exact ⟨rfl, Below.refl _ _⟩
  · by_cases ho : 32768 < ksum (L n f) 16
    · rw [err_over hb ho]
      rw [kra_ok hb] at hK
      rw [hb] at hW
      have hk := ksum_small (n := n) (f := f) h1
      have HW := Lib.hid hW
      have HK := Lib.hid hK
      clear hW hb hK he h2
      go_enter Tryd.func81, Tryd.ntmps81
      go_wp2_with fail
      refine HW.out.mono ?_
      rintro e w' ⟨rfl, rfl⟩
      go_wp2_with fail
      refine HK.out.mono ?_
      rintro e w' ⟨rfl, rfl⟩
      go_wp2
      go_ret2
      exact ⟨rfl, Below.refl _ _⟩
    · exact absurd (err_ok hb ho) he

/-- The codes when the lengths below m stand, and of m the first j symbols. -/
def upto (l : List Nat) (m j i : Nat) : Int := if nth l i < m ∨ (nth l i = m ∧ i < j) then (code l i : Int) else 0
theorem code_none {l : List Nat} {i : Nat} (h : nth l i = 0) : code l i = 0 := by simp [code, h, fst, ct]
theorem upto_start (l : List Nat) (n : Nat) : arr n (fun _ => 0) = arr n (upto l 1 0) := arr_congr (fun i _ => by
  unfold upto
  by_cases h : nth l i = 0
  · rw [if_pos (by omega), code_none h]; rfl
  · rw [if_neg (by omega)])
theorem upto_turn (l : List Nat) (m n : Nat) : arr n (upto l m n) = arr n (upto l (m + 1) 0) := arr_congr (fun i hi => by
  unfold upto
  by_cases h : nth l i < m + 1
  · rw [if_pos (by omega), if_pos (by omega)]
  · rw [if_neg (by omega), if_neg (by omega)])
theorem upto_end {l : List Nat} (n : Nat) (h : ∀ i, nth l i ≤ 15) : arr n (upto l 16 0) = arr n (fun i => (code l i : Int)) := arr_congr (fun i _ => by
  unfold upto
  rw [if_pos (by have := h i; omega)])
theorem upto_same {l : List Nat} {m j : Nat} (n : Nat) (h : nth l j ≠ m) : arr n (upto l m j) = arr n (upto l m (j + 1)) := arr_congr (fun i _ => by
  unfold upto
  by_cases e : i = j
  · subst e
    by_cases h2 : nth l i < m
    · rw [if_pos (by omega), if_pos (by omega)]
    · rw [if_neg (by omega), if_neg (by omega)]
  · by_cases h2 : nth l i < m ∨ (nth l i = m ∧ i < j)
    · rw [if_pos h2, if_pos (by omega)]
    · rw [if_neg h2, if_neg (by omega)])
theorem upto_set {l : List Nat} {m j : Nat} (n : Nat) (h : nth l j = m) : (arr n (upto l m j)).setIfInBounds j (.int .i64 ((fst l m + ct (l.take j) m : Nat) : Int)) = arr n (upto l m (j + 1)) := by
  rw [arr_set]
  refine arr_congr (fun i _ => ?_)
  unfold upto
  by_cases e : i = j
  · subst e
    rw [if_pos rfl, if_pos (by omega), code, h]
  · rw [if_neg e]
    by_cases h2 : nth l i < m ∨ (nth l i = m ∧ i < j)
    · rw [if_pos h2, if_pos (by omega)]
    · rw [if_neg h2, if_neg (by omega)]

set_option maxRecDepth 100000 in
theorem rCodes_ok {A : Option Addr} {n cap : Nat} {f : Nat → Int} (he : err n f = 0) {w : World} (HC : Hid (row w A n f)) :
    Calls Tryd.prog 81 #[.slice A n cap] w fun e w' => ∃ g, e = .returned (.tuple #[.slice (some ⟨g, 0, none⟩) n n, .int .i64 0]) ∧ Blk w' g 3 (arr n (fun i => (code (L n f) i : Int))) ∧ w.heap.size ≤ g ∧ Below w.heap.size w w' := by
  obtain ⟨h1, h2, h3⟩ := err_zero he
  have hb := bad_ok h1 h2
  have hW := wrong_any (cap := cap) (by omega) HC
  have hK := rKraft_any (cap := cap) (by omega) HC
  rw [hb] at hW
  rw [kra_ok hb] at hK
  have HW := Lib.hid hW
  have HK := Lib.hid hK
  have H15 := Lib.hid (L_le h2)
  have HR := Lib.hid (L_row h2 HC.out)
  have hmk := made n (by omega)
  obtain ⟨l, hl⟩ : ∃ l, l = L n f := ⟨_, rfl⟩
  have hln : Hid (l.length = n) := Lib.hid (by rw [hl, L_length])
  rw [← hl] at H15 HR HK h3 ⊢
  clear hW h2 he hK hb hl HC
  go_enter Tryd.func81, Tryd.ntmps81
  go_wp2_with fail
  refine HW.out.mono ?_
  rintro e w' ⟨rfl, rfl⟩
  go_wp2_with fail
  refine HK.out.mono ?_
  rintro e w' ⟨rfl, rfl⟩
  go_wp2
  go_loopw [7, 6] (fun i c wr => ∃ m : Nat, i = .int .i64 m ∧ c = .int .i64 (fst l m) ∧ 1 ≤ m ∧ m ≤ 16 ∧ Hid (Blk wr w.heap.size 3 (arr n (upto l m 0))) ∧ Hid (Below w.heap.size w wr))
    (fun i _ _ => 16 - (intOf i).toNat)
  case atStart =>
    exact ⟨1, rfl, rfl, by omega, by omega, Lib.hid (by rw [upto_start l]; exact Blk.fresh w _ _), Lib.hid (below_alloc _ _)⟩
  case round =>
    obtain ⟨m, rfl, rfl, hm1, hm16, HT, HB⟩ := hrel
    clear hmk
    by_cases hm : m ≤ 15
    · go_wp2
      obtain ⟨wo, rfl⟩ : ∃ wo : World, wo = wr := ⟨_, rfl⟩
      go_loopw [8, 6] (fun i c wr => ∃ j : Nat, i = .int .i64 j ∧ c = .int .i64 ((fst l m + ct (l.take j) m : Nat) : Int) ∧ j ≤ n ∧ Hid (Blk wr w.heap.size 3 (arr n (upto l m j))) ∧ Hid (Below w.heap.size w wr))
        (fun i _ _ => n - (intOf i).toNat)
      case atStart => exact ⟨0, rfl, by simp [ct_nil], by omega, HT, HB⟩
      case round =>
        obtain ⟨j, rfl, rfl, hj, HT2, HB2⟩ := hrel
        have hyb : fst l m + ct (l.take j) m ≤ 65536 * 320 := by
          have := fst_le l m
          have h3 := ct_take_le (l := l) (j := j) m
          have h2 : 2 ^ (m + 1) * l.length ≤ 2 ^ 16 * 320 := Nat.mul_le_mul (Nat.pow_le_pow_right (by omega) (by omega)) (by rw [hln.out]; exact h1)
          omega
        by_cases hjn : j < n
        · have hjl : Hid (j < l.length) := Lib.hid (by rw [hln.out]; exact hjn)
          obtain ⟨b, off, rfl, hbl, hc0⟩ := HR.out.get (k := j) hjl.out
          have hc := (HB2.out.cell (p := ⟨b, off + j, none⟩) hbl).trans hc0
          clear hc0
          have HN := Lib.hid (ct_next hjl.out m)
          have HS := Lib.hid (fun h => upto_same (l := l) (m := m) (j := j) n h)
          have HS2 := Lib.hid (fun h => upto_set (l := l) (m := m) (j := j) n h)
          obtain ⟨x, hx⟩ : ∃ x, x = nth l j := ⟨_, rfl⟩
          obtain ⟨y, hy⟩ : ∃ y, y = fst l m + ct (l.take j) m := ⟨_, rfl⟩
          rw [← hx] at hc HN HS HS2
          rw [← hy] at hyb HS2 ⊢
          have HY := Lib.hid hy
          clear hx hy
          by_cases hxm : x = m
          · subst hxm
            have htz : wr.cell? ⟨w.heap.size, j, none⟩ = some (.int .i64 (upto l x j j)) := by rw [HT2.out.cell, arr_get _ hjn]
            have hfz := HT2.out.frozen j
            go_wp2
            go_roundw
            case rel =>
              refine ⟨j + 1, by go_num, ?_, by omega, Lib.hid ?_, Lib.hid (HB2.out.setCell (Nat.le_refl _) _)⟩
              · have := HN.out
                rw [if_pos ⟨rfl, by omega⟩] at this
                rw [this, ← Nat.add_assoc, ← HY.out]; simp
              · have h := HT2.out.store j (.int .i64 y)
                rw [HS2.out rfl] at h; exact h
            case measure => simp [intOf]; omega
          · have hxm' : ((x : Int) == (m : Int)) = false := by simp; omega
            go_wp2
            go_roundw
            case rel =>
              refine ⟨j + 1, by go_num, ?_, by omega, Lib.hid ?_, HB2⟩
              · have := HN.out
                rw [if_neg (fun h => hxm h.1.symm)] at this
                rw [this, Nat.add_zero, ← HY.out]
              · rw [← HS.out hxm]; exact HT2.out
            case measure => simp [intOf]; omega
        · have hj8 := Lib.hid (show j = n by omega)
          have HC8 : Hid (fst l m + ct (l.take j) m = fst l m + ct l m) := Lib.hid (by rw [hj8.out, ← hln.out, List.take_length])
          obtain ⟨y, hy⟩ : ∃ y, y = fst l m + ct (l.take j) m := ⟨_, rfl⟩
          rw [← hy] at hyb HC8 ⊢
          clear hy
          go_wp2
          go_roundw
          case rel =>
            refine ⟨m + 1, by go_num, ?_, by omega, by omega, Lib.hid ?_, HB2⟩
            · rw [fst, ← HC8.out]; simp
            · rw [← upto_turn]
              have h := HT2.out
              rw [hj8.out] at h; exact h
          case measure => simp [intOf]; omega
    · have hm8 := Lib.hid (show m = 16 by omega)
      go_wp2
      go_ret2
      exact ⟨w.heap.size, rfl, by rw [← upto_end n H15.out, ← hm8.out]; exact HT.out, Nat.le_refl _, HB.out⟩
end Go.Proofs.YtgbdecnaamlekaaDoor.Ng
