/-
  countByLength, kraft, firstCodes: arrays of sixteen ints.
  kraft, firstCodes: an array of sixteen ints handed in.
  uncodable and Kraft, and the reference's Kraft.
  lens.Codes: what is wrong, or the codes in a row of the call's own.
  The reference's Codes.
  The bits and bases of spans: lengthBits, distBits, lengthBases, distBases, lastUpTo.
  spans: Length, Dist, OfLength, OfDist.
  Conditions: as each theorem says.
-/
import Derived.Test.YtnkninjdpgpkmaaGreatDoorBae
import Derived.Deep.RegionHeld3
import Derived.BigRegion
import Derived.Test.YtnkninjdpgpkmaaGreatDoorBag
import Derived.Laws.MakeOwn
import Derived.OwnWalk
import Derived.Test.YtnkninjdpgpkmaaGreatDoorRows
import Derived.WalkKit
import Derived.WalkSpells
import Derived.WalkLawsBesides
import Derived.Test.YtnkninjdpgpkmaaGreatDoorBab
import Derived.Test.YtnkninjdpgpkmaaGreatDoorBad
import Derived.Laws.PanicsMore
namespace Go.Proofs.YtnkninjdpgpkmaaGreatDoor.Nc
open Go.RowKit Go.Proofs.YtnkninjdpgpkmaaGreatDoor.Na Go.Proofs.YtnkninjdpgpkmaaGreatDoor.Nm Go.Proofs.YtnkninjdpgpkmaaGreatDoor.Bw Go.Proofs.YtnkninjdpgpkmaaGreatDoor.Ni

theorem infoC : (Tryz.prog.info? 211).map (fun i => (i.zero, i.size)) = some (some (.agg (Array.replicate 16 (.int .i64 0))), 16) := by kernel_rfl
theorem infoA : (Tryz.prog.info? 209).map (fun i => (i.zero, i.size)) = some (some (.agg (Array.replicate 16 (.int .i64 0))), 16) := by kernel_rfl

/-- The row of lengths, in Nat. -/
def lens (w : World) (A : Option Addr) (l : List Nat) : Prop := row w A l.length (fun i => (nth l i : Int))
theorem lens.get {w : World} {A : Option Addr} {l : List Nat} (h : lens w A l) {k : Nat} (hk : k < l.length) : ∃ b off : Nat, A = some ⟨b, off, none⟩ ∧ b < w.heap.size ∧ w.cell? ⟨b, off + k, none⟩ = some (.int .i64 (nth l k : Int)) := h k hk
theorem lens.below {w w' : World} {A : Option Addr} {l : List Nat} (h : lens w A l) (k : Below w.heap.size w w') : lens w' A l := row.below h k

set_option maxRecDepth 100000 in
theorem count_any {A : Option Addr} {cap : Nat} {l : List Nat} (hn : l.length ≤ 320) (hl : ∀ i, nth l i ≤ 15) {w : World} (HC : Hid (lens w A l)) :
    Calls Tryz.prog 154 #[.slice A l.length cap] w fun e w' => e = .returned (.agg (arr 16 (fun i => (ct l i : Int)))) ∧ Below w.heap.size w w' := by
  obtain ⟨hz, hsz⟩ := zero_of_info infoC
  rw [arr_zero] at hz
  obtain ⟨n, hln⟩ : ∃ n, n = l.length := ⟨_, rfl⟩
  rw [← hln] at hn ⊢
  have HL := Lib.hid hln
  clear hln
  go_enter Tryz.func154, Tryz.ntmps154
  go_wp2
  go_loopw [7] (fun i wr => ∃ k : Nat, i = .int .i64 k ∧ k ≤ n ∧ Hid (Blk wr w.heap.size 211 (arr 16 (fun _ => 0))) ∧ Hid (Blk wr (w.heap.size + 1) 211 (arr 16 (fun i => (ct (l.take k) i : Int)))) ∧ Hid (Below w.heap.size w wr))
    (fun i _ => n - (intOf i).toNat)
  case atStart =>
    refine ⟨0, rfl, by omega, Lib.hid ?_, Lib.hid ?_, Lib.hid ?_⟩
    · exact (Blk.fresh w _ _).below (below_alloc _ _)
    · have := Blk.fresh (w.alloc (.cells (arr 16 (fun _ => 0)) 211)) 211 (arr 16 (fun _ => 0))
      rw [size_alloc] at this
      simpa [ct_nil] using this
    · exact grows (below_alloc _ _) (below_alloc _ _)
  case round =>
    obtain ⟨k, rfl, hk, HR, HT, HB⟩ := hrel
    by_cases hkn : k < n
    · obtain ⟨b, off, rfl, hbl, hc0⟩ := HC.out.get (k := k) (by rw [← HL.out]; exact hkn)
      have hc := (HB.out.cell (p := ⟨b, off + k, none⟩) hbl).trans hc0
      clear hc0 hz hsz
      obtain ⟨x, hx⟩ : ∃ x, x = nth l k := ⟨_, rfl⟩
      rw [← hx] at hc
      have hx15 : x ≤ 15 := by rw [hx]; exact hl k
      have HX := Lib.hid hx
      clear hx hl
      rcases Nat.eq_zero_or_pos x with rfl | h0
      · go_wp2
        go_roundw
        case rel =>
          refine ⟨k + 1, by go_num, by omega, HR, Lib.hid ?_, HB⟩
          have h := HT.out
          rw [arr_congr (g := fun i => (ct (l.take (k + 1)) i : Int)) (fun i _ => ?_)] at h
          · exact h
          · rw [ct_next (by rw [← HL.out]; exact hkn), if_neg (by have := HX.out; omega)]; rfl
        case measure => simp [intOf]; omega
      · obtain ⟨y, hy⟩ : ∃ y, y = ct (l.take k) x := ⟨_, rfl⟩
        have hy320 : y ≤ 320 := by
          have := ct_le (l.take k) x
          rw [List.length_take] at this; omega
        have hty : wr.cell? ⟨w.heap.size + 1, x, none⟩ = some (.int .i64 y) := by rw [HT.out.cell, arr_get _ (by omega), hy]
        have hfr := HT.out.frozen x
        have HY := Lib.hid hy
        clear hy
        go_wp2
        go_roundw
        case rel =>
          refine ⟨k + 1, by go_num, by omega, Lib.hid ?_, Lib.hid ?_, Lib.hid (HB.out.setCell (by simp) _)⟩
          · exact HR.out.apartStore (by simp)
          · have h := HT.out.store x (.int .i64 (y + 1))
            rw [arr_set, arr_congr (g := fun i => (ct (l.take (k + 1)) i : Int)) (fun i _ => ?_)] at h
            · exact h
            · rw [ct_next (by rw [← HL.out]; exact hkn), ← HX.out]
              by_cases e : i = x
              · rw [if_pos e, if_pos ⟨e, by omega⟩, e, HY.out]; omega
              · rw [if_neg e, if_neg (fun h => e h.1)]; rfl
        case measure => simp [intOf]; omega
    · have hk8 := Lib.hid (show k = l.length by rw [← HL.out]; omega)
      have HT' : Hid (Blk wr (w.heap.size + 1) 211 (arr 16 (fun i => (ct l i : Int)))) := by
        rw [hk8.out, List.take_length] at HT; exact HT
      have HZ := Lib.hid hsz
      clear hz hsz
      go_wp2_with (first | (refine wpList_load_row rfl 211 _ rfl (w.heap.size + 1) rfl _ _ _ _ HT'.out Tryz.underlying211 rfl (by rw [arr_size]; exact HZ.out) ?_) | (refine wpList_store_row rfl 211 _ _ rfl w.heap.size (arr 16 (fun i => (ct l i : Int))) rfl rfl _ _ HR.out (by rw [arr_size]; exact HZ.out) (by rw [arr_size, arr_size]) (arr_one 16 _) ?_))
      refine bodyPost_ret (v := .agg (arr 16 (fun i => (ct l i : Int)))) ?_ rfl ⟨rfl, Below_setRow HB.out (Nat.le_refl _) _⟩
      exact results_cell_row rfl _ _ w.heap.size 211 _ _ _ rfl (setRow_heap _ _ _ _ _ _ HR.out) Tryz.underlying211 rfl (by rw [arr_size]; exact HZ.out)
end Go.Proofs.YtnkninjdpgpkmaaGreatDoor.Nc
namespace Go.Proofs.YtnkninjdpgpkmaaGreatDoor.Nd
open Go.RowKit Go.Proofs.YtnkninjdpgpkmaaGreatDoor.Vm Go.Proofs.YtnkninjdpgpkmaaGreatDoor.Na Go.Proofs.YtnkninjdpgpkmaaGreatDoor.Nm Go.Proofs.YtnkninjdpgpkmaaGreatDoor.Bw Go.Proofs.YtnkninjdpgpkmaaGreatDoor.Ni Go.Proofs.YtnkninjdpgpkmaaGreatDoor.Nc

theorem wrap_add_shl (s y d : Nat) (h : s + y * 2 ^ d ≤ 4611686018427387904) : wrap64 ((s : Int) + wrap64 ((y : Int) * 2 ^ d)) = ((s + y * 2 ^ d : Nat) : Int) := by
  have e : ((y : Int) * 2 ^ d) = ((y * 2 ^ d : Nat) : Int) := by simp
  rw [e]
  obtain ⟨m, hm⟩ : ∃ m, m = y * 2 ^ d := ⟨_, rfl⟩
  rw [← hm] at h ⊢
  rw [wrap64_in (n := (m : Int)) (by omega) (by omega), wrap64_in (by omega) (by omega)]; simp
theorem first_zero (l : List Nat) : arr 16 (fun _ => 0) = arr 16 (fun i => if i ≤ 0 then (fst l i : Int) else 0) := arr_congr (fun i _ => by
  by_cases e : i ≤ 0
  · have e0 : i = 0 := by omega
    subst e0; rfl
  · rw [if_neg e])
theorem wrap_two (x y : Nat) (h : x + y ≤ 1000000000000) : wrap64 (2 * ((x : Int) + y)) = ((2 * (x + y) : Nat) : Int) := by
  rw [wrap64_in (by omega) (by omega)]; simp

set_option maxRecDepth 100000 in
theorem kraft_any {l : List Nat} (hn : l.length ≤ 320) (w : World) :
    Calls Tryz.prog 183 #[.agg (arr 16 (fun i => (ct l i : Int)))] w fun e w' => e = .returned (.int .i64 (ksum l 16)) ∧ Below w.heap.size w w' := by
  obtain ⟨hz, hsz⟩ := zero_of_info infoC
  go_enter Tryz.func183, Tryz.ntmps183
  go_wp2
  go_loopw [5, 3] (fun i s wr => ∃ k : Nat, i = .int .i64 k ∧ s = .int .i64 (ksum l k) ∧ k ≤ 16 ∧ Hid (Blk wr w.heap.size 211 (arr 16 (fun i => (ct l i : Int)))) ∧ Hid (Below w.heap.size w wr))
    (fun i _ _ => 16 - (intOf i).toNat)
  case atStart =>
    exact ⟨0, rfl, rfl, by omega, Lib.hid (Blk.fresh w _ _), Lib.hid (below_alloc _ _)⟩
  case round =>
    obtain ⟨k, rfl, rfl, hk, HT, HB⟩ := hrel
    clear hz hsz
    by_cases hk16 : k < 16
    · obtain ⟨y, hy⟩ : ∃ y, y = ct l k := ⟨_, rfl⟩
      have hy320 : y ≤ 320 := by rw [hy]; exact Nat.le_trans (ct_le l k) hn
      have hty : wr.cell? ⟨w.heap.size, k, none⟩ = some (.int .i64 y) := by rw [HT.out.cell, arr_get _ hk16, hy]
      have HY := Lib.hid hy
      clear hy
      go_wp2
      go_roundw
      case rel =>
        refine ⟨k + 1, by go_num, ?_, by omega, HT, HB⟩
        rw [wrap_add_shl _ _ _ (by
          have := ksum_le l (k + 1)
          rw [ksum, ← HY.out] at this
          have h2 : (k + 1) * (l.length * 32768) ≤ 16 * (320 * 32768) := Nat.mul_le_mul (by omega) (Nat.mul_le_mul_right _ hn)
          omega), HY.out, ksum]
      case measure => simp [intOf]; omega
    · have hk8 := Lib.hid (show k = 16 by omega)
      go_wp2
      go_ret
      exact ⟨ret_i64 (by rw [hk8.out]), HB.out⟩

set_option maxRecDepth 100000 in
theorem first_any {l : List Nat} (hn : l.length ≤ 320) (w : World) :
    Calls Tryz.prog 153 #[.agg (arr 16 (fun i => (ct l i : Int)))] w fun e w' => e = .returned (.agg (arr 16 (fun i => (fst l i : Int)))) ∧ Below w.heap.size w w' := by
  obtain ⟨hz, hsz⟩ := zero_of_info infoA
  obtain ⟨hz', hsz'⟩ := zero_of_info infoC
  rw [arr_zero] at hz
  go_enter Tryz.func153, Tryz.ntmps153
  go_wp2
  go_loopw [5] (fun i wr => ∃ k : Nat, i = .int .i64 k ∧ k ≤ 15 ∧ Hid (Blk wr w.heap.size 211 (arr 16 (fun i => (ct l i : Int)))) ∧ Hid (Blk wr (w.heap.size + 1) 209 (arr 16 (fun _ => 0)))
      ∧ Hid (Blk wr (w.heap.size + 1 + 1) 209 (arr 16 (fun i => if i ≤ k then (fst l i : Int) else 0))) ∧ Hid (Below w.heap.size w wr))
    (fun i _ => 16 - (intOf i).toNat)
  case atStart =>
    obtain ⟨s1, s2, s3, s4⟩ := start3 w 211 209 209 (arr 16 (fun i => (ct l i : Int))) (arr 16 (fun _ => 0)) (arr 16 (fun _ => 0))
    exact ⟨0, rfl, by omega, Lib.hid s1, Lib.hid s2, Lib.hid (first_zero l ▸ s3), Lib.hid s4⟩
  case round =>
    obtain ⟨k, rfl, hk, HC, HR, HT, HB⟩ := hrel
    by_cases hk16 : k < 15
    · clear hz hsz hz' hsz'
      obtain ⟨y, hy⟩ : ∃ y, y = ct l k := ⟨_, rfl⟩
      obtain ⟨x, hx⟩ : ∃ x, x = fst l k := ⟨_, rfl⟩
      have hb : x + y ≤ 65536 * 320 := by
        have := fst_le l k
        have h2 : 2 ^ (k + 1) * l.length ≤ 2 ^ 16 * 320 := Nat.mul_le_mul (Nat.pow_le_pow_right (by omega) (by omega)) hn
        omega
      have hty : wr.cell? ⟨w.heap.size, k, none⟩ = some (.int .i64 y) := by rw [HC.out.cell, arr_get _ (by omega), hy]
      have htx : wr.cell? ⟨w.heap.size + 1 + 1, k, none⟩ = some (.int .i64 x) := by rw [HT.out.cell, arr_get _ (by omega), if_pos (Nat.le_refl _), hx]
      have htz : wr.cell? ⟨w.heap.size + 1 + 1, k + 1, none⟩ = some (.int .i64 0) := by rw [HT.out.cell, arr_get _ (by omega), if_neg (by omega)]
      have hfr := HT.out.frozen (k + 1)
      have HY := Lib.hid hy
      have HX := Lib.hid hx
      clear hy hx
      go_wp2
      go_region
      go_wp2
      go_roundw
      case rel =>
        refine ⟨k + 1, by go_num, by omega, Lib.hid ?_, Lib.hid ?_, Lib.hid ?_, Lib.hid ?_⟩
        · exact HC.out.apartStore (by show _ ≠ _ + 1 + 1; omega)
        · exact HR.out.apartStore (by show _ ≠ _ + 1 + 1; omega)
        · have h := HT.out.store (k + 1) (.int .i64 (2 * ((x : Int) + y)))
          rw [arr_set, arr_congr (g := fun i => if i ≤ k + 1 then (fst l i : Int) else 0) (fun i _ => ?_)] at h
          · exact h
          · by_cases e : i = k + 1
            · rw [if_pos e, if_pos (by omega), e, fst, ← HX.out, ← HY.out]; simp
            · rw [if_neg e]
              by_cases e2 : i ≤ k
              · rw [if_pos e2, if_pos (by omega)]
              · rw [if_neg e2, if_neg (by omega)]
        · exact below_drew (HB.out.setCell (by show _ ≤ _ + 1 + 1; omega) _)
      case measure => simp [intOf]; omega
    · have hk8 := Lib.hid (show k = 15 by omega)
      have HT' : Hid (Blk wr (w.heap.size + 1 + 1) 209 (arr 16 (fun i => (fst l i : Int)))) := by
        rw [arr_congr (g := fun i => (fst l i : Int)) (fun i hi => if_pos (by have := hk8.out; omega))] at HT; exact HT
      have HZ := Lib.hid hsz
      clear hz hsz hz' hsz'
      go_wp2_with (first | (refine wpList_load_row rfl 209 _ rfl (w.heap.size + 1 + 1) rfl _ _ _ _ HT'.out Tryz.underlying209 rfl (by rw [arr_size]; exact HZ.out) ?_) | (refine wpList_store_row rfl 209 _ _ rfl (w.heap.size + 1) (arr 16 (fun i => (fst l i : Int))) rfl rfl _ _ HR.out (by rw [arr_size]; exact HZ.out) (by rw [arr_size, arr_size]) (arr_one 16 _) ?_))
      refine bodyPost_ret (v := .agg (arr 16 (fun i => (fst l i : Int)))) ?_ rfl ⟨rfl, Below_setRow HB.out (by omega) _⟩
      exact results_cell_row rfl _ _ (w.heap.size + 1) 209 _ _ _ rfl (setRow_heap _ _ _ _ _ _ HR.out) Tryz.underlying209 rfl (by rw [arr_size]; exact HZ.out)
end Go.Proofs.YtnkninjdpgpkmaaGreatDoor.Nd
namespace Go.Proofs.YtnkninjdpgpkmaaGreatDoor.Ne
open Go.RowKit Go.Proofs.YtnkninjdpgpkmaaGreatDoor.Vm Go.Proofs.YtnkninjdpgpkmaaGreatDoor.Na Go.Proofs.YtnkninjdpgpkmaaGreatDoor.Nm Go.Proofs.YtnkninjdpgpkmaaGreatDoor.Bw Go.Proofs.YtnkninjdpgpkmaaGreatDoor.Ni Go.Proofs.YtnkninjdpgpkmaaGreatDoor.Nc Go.Proofs.YtnkninjdpgpkmaaGreatDoor.Nd

/-- The lengths as natural numbers. -/
def L (n : Nat) (f : Nat → Int) : List Nat := (List.range n).map (fun i => (f i).toNat)
theorem L_length (n : Nat) (f : Nat → Int) : (L n f).length = n := by simp [L]
theorem L_nth {n : Nat} {f : Nat → Int} {i : Nat} (h : i < n) : nth (L n f) i = (f i).toNat := by simp [nth, L, List.getD_eq_getElem?_getD, h]
theorem L_out {n : Nat} {f : Nat → Int} {i : Nat} (h : ¬ i < n) : nth (L n f) i = 0 := by simp [nth, L, List.getD_eq_getElem?_getD, h]
theorem L_le {n : Nat} {f : Nat → Int} (h : ∀ i, i < n → 0 ≤ f i ∧ f i ≤ 15) (i : Nat) : nth (L n f) i ≤ 15 := by
  by_cases hi : i < n
  · rw [L_nth hi]; have := h i hi; omega
  · rw [L_out hi]; omega
theorem L_eq {n : Nat} {f : Nat → Int} (h : ∀ i, i < n → 0 ≤ f i ∧ f i ≤ 15) {i : Nat} (hi : i < n) : f i = (nth (L n f) i : Int) := by
  rw [L_nth hi]; have := h i hi; omega
theorem L_row {w : World} {A : Option Addr} {n : Nat} {f : Nat → Int} (h : ∀ i, i < n → 0 ≤ f i ∧ f i ≤ 15) (hr : row w A n f) : lens w A (L n f) := by
  unfold lens; rw [L_length]; exact hr.congr (fun i hi => L_eq h hi)

/-- What is wrong of lengths that are to have codes. -/
def err (n : Nat) (f : Nat → Int) : Int := if bad n f ≠ 0 then bad n f else if 32768 < ksum (L n f) 16 then 7 else 0
theorem err_bad {n : Nat} {f : Nat → Int} (h : bad n f ≠ 0) : err n f = bad n f := if_pos h
theorem err_over {n : Nat} {f : Nat → Int} (h : bad n f = 0) (h2 : 32768 < ksum (L n f) 16) : err n f = 7 := by unfold err; rw [if_neg (by omega), if_pos h2]
theorem err_ok {n : Nat} {f : Nat → Int} (h : bad n f = 0) (h2 : ¬ 32768 < ksum (L n f) 16) : err n f = 0 := by unfold err; rw [if_neg (by omega), if_neg h2]
theorem err_zero {n : Nat} {f : Nat → Int} (h : err n f = 0) : n ≤ 320 ∧ (∀ i, i < n → 0 ≤ f i ∧ f i ≤ 15) ∧ ksum (L n f) 16 ≤ 32768 := by
  rcases bad_cases n f with ⟨hb, _⟩ | ⟨hb, _⟩ | ⟨hb, h1, h2⟩
  · rw [err_bad (by omega)] at h; omega
  · rw [err_bad (by omega)] at h; omega
  · refine ⟨h1, h2, ?_⟩
    by_cases h3 : 32768 < ksum (L n f) 16
    · rw [err_over hb h3] at h; omega
    · omega
theorem ksum_small {n : Nat} {f : Nat → Int} (h : n ≤ 320) : ksum (L n f) 16 ≤ 200000000 := by
  have := ksum_le (L n f) 16
  rw [L_length] at this
  omega

theorem count_n {A : Option Addr} {n cap : Nat} {f : Nat → Int} (hn : n ≤ 320) (hf : ∀ i, i < n → 0 ≤ f i ∧ f i ≤ 15) {w : World} (HC : Hid (row w A n f)) :
    Calls Tryz.prog 154 #[.slice A n cap] w fun e w' => e = .returned (.agg (arr 16 (fun i => (ct (L n f) i : Int)))) ∧ Below w.heap.size w w' := by
  have h := count_any (A := A) (cap := cap) (l := L n f) (by rw [L_length]; exact hn) (L_le hf) (w := w) (Lib.hid (L_row hf HC.out))
  rw [L_length] at h
  exact h
theorem kraft_n {n : Nat} {f : Nat → Int} (hn : n ≤ 320) (w : World) :
    Calls Tryz.prog 183 #[.agg (arr 16 (fun i => (ct (L n f) i : Int)))] w fun e w' => e = .returned (.int .i64 (ksum (L n f) 16)) ∧ Below w.heap.size w w' :=
  kraft_any (by rw [L_length]; exact hn) w

set_option maxRecDepth 100000 in
theorem uncodable_any {A : Option Addr} {n cap : Nat} {f : Nat → Int} (hn : n ≤ 9223372036854775807) {w : World} (HC : Hid (row w A n f)) :
    Calls Tryz.prog 152 #[.slice A n cap] w fun e w' => e = .returned (.int .i64 (err n f)) ∧ Below w.heap.size w w' := by
  have hI := invalid_any (cap := cap) hn HC
  rcases bad_cases n f with ⟨hb, _⟩ | ⟨hb, _⟩ | ⟨hb, h1, h2⟩
  · rw [err_bad (by omega), hb]
    rw [hb] at hI
    have HI := Lib.hid hI
    clear hI hb
    go_enter Tryz.func152, Tryz.ntmps152
    go_wp2_with fail
    refine HI.out.mono ?_
    rintro e w' ⟨rfl, rfl⟩
    go_wp2
    go_ret
    exact ⟨rfl, Below.refl _ _⟩
  · rw [err_bad (by omega), hb]
    rw [hb] at hI
    have HI := Lib.hid hI
    clear hI hb
    go_enter Tryz.func152, Tryz.ntmps152
    go_wp2_with fail
    refine HI.out.mono ?_
    rintro e w' ⟨rfl, rfl⟩
    go_wp2
    go_ret
    exact ⟨rfl, Below.refl _ _⟩
  · rw [hb] at hI
    have HI := Lib.hid hI
    have HF := Lib.hid h2
    have HBad := Lib.hid hb
    have hk := ksum_small (n := n) (f := f) h1
    clear hI hb h2
    by_cases ho : 32768 < ksum (L n f) 16
    · rw [err_over HBad.out ho]
      go_enter Tryz.func152, Tryz.ntmps152
      go_wp2_with fail
      refine HI.out.mono ?_
      rintro e w' ⟨rfl, rfl⟩
      go_wp2_with fail
      refine (count_n h1 HF.out HC).mono ?_
      rintro e w1 ⟨rfl, b1⟩
      go_wp2_with fail
      refine (kraft_n h1 _).mono ?_
      rintro e w2 ⟨rfl, b2⟩
      go_wp2
      go_ret
      exact ⟨rfl, grows b1 b2⟩
    · rw [err_ok HBad.out ho]
      go_enter Tryz.func152, Tryz.ntmps152
      go_wp2_with fail
      refine HI.out.mono ?_
      rintro e w' ⟨rfl, rfl⟩
      go_wp2_with fail
      refine (count_n h1 HF.out HC).mono ?_
      rintro e w1 ⟨rfl, b1⟩
      go_wp2_with fail
      refine (kraft_n h1 _).mono ?_
      rintro e w2 ⟨rfl, b2⟩
      go_wp2
      go_ret
      exact ⟨rfl, grows b1 b2⟩

/-- What Kraft answers. -/
def kra (n : Nat) (f : Nat → Int) : Int := if bad n f ≠ 0 then -1 else (ksum (L n f) 16 : Int)
theorem kra_bad {n : Nat} {f : Nat → Int} (h : bad n f ≠ 0) : kra n f = -1 := if_pos h
theorem kra_ok {n : Nat} {f : Nat → Int} (h : bad n f = 0) : kra n f = (ksum (L n f) 16 : Int) := if_neg (by omega)
theorem wrap_one (s d : Nat) (h : s + 2 ^ d ≤ 1000000000000) : wrap64 ((s : Int) + wrap64 (2 ^ d)) = ((s + 2 ^ d : Nat) : Int) := by
  have e : ((2 : Int) ^ d) = ((2 ^ d : Nat) : Int) := by simp
  rw [e]
  obtain ⟨m, hm⟩ : ∃ m, m = 2 ^ d := ⟨_, rfl⟩
  rw [← hm] at h ⊢
  rw [wrap64_in (n := (m : Int)) (by omega) (by omega), wrap64_in (by omega) (by omega)]; simp

set_option maxRecDepth 100000 in
theorem rKraft_any {A : Option Addr} {n cap : Nat} {f : Nat → Int} (hn : n ≤ 9223372036854775807) {w : World} (HC : Hid (row w A n f)) :
    Calls Tryz.prog 124 #[.slice A n cap] w fun e w' => e = .returned (.int .i64 (kra n f)) ∧ w = w' := by
  have hI := wrong_any (cap := cap) hn HC
  rcases bad_cases n f with ⟨hb, _⟩ | ⟨hb, _⟩ | ⟨hb, h1, h2⟩
  · rw [kra_bad (by omega)]
    rw [hb] at hI
    have HI := Lib.hid hI
    clear hI hb
    go_enter Tryz.func124, Tryz.ntmps124
    go_wp2_with fail
    refine HI.out.mono ?_
    rintro e w' ⟨rfl, rfl⟩
    go_wp2
    go_ret
    exact ⟨rfl, rfl⟩
  · rw [kra_bad (by omega)]
    rw [hb] at hI
    have HI := Lib.hid hI
    clear hI hb
    go_enter Tryz.func124, Tryz.ntmps124
    go_wp2_with fail
    refine HI.out.mono ?_
    rintro e w' ⟨rfl, rfl⟩
    go_wp2
    go_ret
    exact ⟨rfl, rfl⟩
  · rw [hb] at hI
    have HI := Lib.hid hI
    have HL := Lib.hid (L_row h2 HC.out)
    have H15 := Lib.hid (L_le h2)
    have HF := Lib.hid h2
    rw [kra_ok hb]
    obtain ⟨l, hl⟩ : ∃ l, l = L n f := ⟨_, rfl⟩
    have hln : Hid (l.length = n) := Lib.hid (by rw [hl, L_length])
    rw [← hl] at HL H15 ⊢
    clear hI hb h2 hl HC HF
    go_enter Tryz.func124, Tryz.ntmps124
    go_wp2_with fail
    refine HI.out.mono ?_
    rintro e w' ⟨rfl, rfl⟩
    go_wp2
    go_loopw [4, 3] (fun i s wr => ∃ k : Nat, i = .int .i64 k ∧ s = .int .i64 (ksum (l.take k) 16) ∧ k ≤ n ∧ wr = w) (fun i _ _ => n - (intOf i).toNat)
    case atStart => exact ⟨0, rfl, by simp [ksum_nil], by omega, rfl⟩
    case round =>
      obtain ⟨k, rfl, rfl, hk, rfl⟩ := hrel
      by_cases hkn : k < n
      · obtain ⟨b, off, rfl, hbl, hc⟩ := HL.out.get (k := k) (by rw [hln.out]; exact hkn)
        have HS := Lib.hid (ksum_next (l := l) (j := k) (by rw [hln.out]; exact hkn) 16)
        have hx15 := H15.out k
        have hle := ksum_le (l.take (k + 1)) 16
        have hlt : (l.take (k + 1)).length ≤ 320 := by rw [List.length_take]; omega
        obtain ⟨x, hx⟩ : ∃ x, x = nth l k := ⟨_, rfl⟩
        rw [← hx] at hc HS hx15
        have HLe := Lib.hid (show ksum (l.take (k + 1)) 16 ≤ 200000000 by omega)
        clear hx hle hlt
        rcases Nat.eq_zero_or_pos x with rfl | h0
        · go_wp2
          go_roundw
          case rel => exact ⟨k + 1, by go_num, by rw [HS.out]; simp, by omega, trivial⟩
          case measure => simp [intOf]; omega
        · go_wp2
          go_roundw
          case rel =>
            refine ⟨k + 1, by go_num, ?_, by omega, trivial⟩
            have h := HS.out
            rw [if_pos (by omega)] at h
            rw [wrap_one _ _ (by rw [← h]; have := HLe.out; omega), h]
          case measure => simp [intOf]; omega
      · have hk8 := Lib.hid (show k = l.length by rw [hln.out]; omega)
        go_wp2
        go_ret
        exact ⟨ret_i64 (by rw [hk8.out, List.take_length]), rfl⟩
end Go.Proofs.YtnkninjdpgpkmaaGreatDoor.Ne
namespace Go.Proofs.YtnkninjdpgpkmaaGreatDoor.Nf
open Go.RowKit Go.Proofs.YtnkninjdpgpkmaaGreatDoor.Vm Go.Proofs.YtnkninjdpgpkmaaGreatDoor.Na Go.Proofs.YtnkninjdpgpkmaaGreatDoor.Nm Go.Proofs.YtnkninjdpgpkmaaGreatDoor.Bw Go.Proofs.YtnkninjdpgpkmaaGreatDoor.Ni Go.Proofs.YtnkninjdpgpkmaaGreatDoor.Nc Go.Proofs.YtnkninjdpgpkmaaGreatDoor.Nd Go.Proofs.YtnkninjdpgpkmaaGreatDoor.Ne

theorem infoI : (Tryz.prog.info? 3).map (fun i => (i.zero, i.size, i.bytes)) = some (some (.int .i64 0), 1, 8) := by kernel_rfl
theorem made (n : Nat) (hn : n ≤ 1000000) (u : World) : (Instr.makeSlice 22 (.int .i64 (n : Int)) (.int .i64 (n : Int))).run Tryz.prog u = .ok (.slice (some ⟨u.heap.size, 0, none⟩) n n) (u.alloc (.cells (arr n (fun _ => 0)) 3)) := by
  obtain ⟨i0, hi, hz0, hz1, hz2⟩ := info_parts infoI
  have h := run_make (P := Tryz.prog) u 22 3 i0 (.int .i64 0) Tryz.underlying22 hi hz0 .i64 .i64 (n : Int) (n : Int) (by omega) (by omega) (by rw [hz2]; omega) (by omega)
  have e : madeCells (Value.int .i64 0).cells (n * i0.size) = arr n (fun _ => 0) := by
    rw [hz1]
    apply Array.ext
    · simp [madeCells, arr]
    · intro j h1 h2
      simp [madeCells, arr, Value.cells]
      simp [Nat.mod_one]
  simp only [Int.toNat_natCast, e] at h
  exact h

theorem first_n {n : Nat} {f : Nat → Int} (hn : n ≤ 320) (w : World) :
    Calls Tryz.prog 153 #[.agg (arr 16 (fun i => (ct (L n f) i : Int)))] w fun e w' => e = .returned (.agg (arr 16 (fun i => (fst (L n f) i : Int)))) ∧ Below w.heap.size w w' :=
  first_any (by rw [L_length]; exact hn) w

set_option maxRecDepth 100000 in
theorem Codes_no {A : Option Addr} {n cap : Nat} {f : Nat → Int} (hn : n ≤ 9223372036854775807) (he : err n f ≠ 0) {w : World} (HC : Hid (row w A n f)) :
    Calls Tryz.prog 130 #[.slice A n cap] w fun e w' => e = .returned (.tuple #[.slice none 0 0, .int .i64 (err n f)]) ∧ Below w.heap.size w w' := by
  have HU := Lib.hid (uncodable_any (cap := cap) hn HC)
  obtain ⟨e, hee⟩ : ∃ e, e = err n f := ⟨_, rfl⟩
  rw [← hee] at HU he ⊢
  clear hee HC
  go_enter Tryz.func130, Tryz.ntmps130
  go_wp2_with fail
  refine HU.out.mono ?_
  rintro e w' ⟨rfl, b1⟩
  go_wp2
  go_ret2
  exact ⟨rfl, b1⟩

theorem next_zero (l : List Nat) : arr 16 (fun i => (fst l i : Int)) = arr 16 (fun i => ((fst l i + ct (l.take 0) i : Nat) : Int)) := arr_congr (fun i _ => by simp [ct_nil])
theorem codes_zero (l : List Nat) (n : Nat) : arr n (fun _ => 0) = arr n (fun i => if i < 0 then (code l i : Int) else 0) := arr_congr (fun i _ => by rw [if_neg (by omega)])

set_option maxHeartbeats 400000 in
set_option maxRecDepth 100000 in
theorem Codes_ok {A : Option Addr} {n cap : Nat} {f : Nat → Int} (he : err n f = 0) {w : World} (HC : Hid (row w A n f)) :
    Calls Tryz.prog 130 #[.slice A n cap] w fun e w' => ∃ g, e = .returned (.tuple #[.slice (some ⟨g, 0, none⟩) n n, .int .i64 0]) ∧ Blk w' g 3 (arr n (fun i => (code (L n f) i : Int))) ∧ w.heap.size ≤ g ∧ Below w.heap.size w w' := by
  obtain ⟨h1, h2, h3⟩ := err_zero he
  have hU := uncodable_any (cap := cap) (by omega) HC
  rw [he] at hU
  have HU := Lib.hid hU
  have HF := Lib.hid h2
  have H15 := Lib.hid (L_le h2)
  have HR := Lib.hid (L_row h2 HC.out)
  obtain ⟨hz, hsz⟩ := zero_of_info infoA
  rw [arr_zero] at hz
  have hmk := made n (by omega)
  have HZ := Lib.hid hsz
  clear hU h2 h3 he hsz
  go_enter Tryz.func130, Tryz.ntmps130
  go_wp2_with fail
  refine HU.out.mono ?_
  rintro e w1 ⟨rfl, b1⟩
  have HC1 := Lib.hid (HC.out.below b1)
  have B1 := Lib.hid b1
  clear b1
  go_wp2_with fail
  refine (count_n h1 HF.out HC1).mono ?_
  rintro e w2 ⟨rfl, b2⟩
  have B2 := Lib.hid (grows B1.out b2)
  clear b2
  go_wp2_with fail
  refine (first_n h1 _).mono ?_
  rintro e w3 ⟨rfl, b3⟩
  have B3 := Lib.hid (grows B2.out b3)
  clear b3
  obtain ⟨l, hl⟩ : ∃ l, l = L n f := ⟨_, rfl⟩
  have hln : Hid (l.length = n) := Lib.hid (by rw [hl, L_length])
  rw [← hl] at H15 HR ⊢
  obtain ⟨F, hF⟩ : ∃ F, F = arr 16 (fun i => (fst l i : Int)) := ⟨_, rfl⟩
  obtain ⟨Z, hZ⟩ : ∃ Z, Z = arr 16 (fun _ => 0) := ⟨_, rfl⟩
  have q1 := Lib.hid (show (Tryz.prog.info? 209).map (·.size) = some F.size by rw [hF, arr_size]; exact HZ.out)
  have q2 := Lib.hid (show Z.size = F.size by rw [hF, hZ, arr_size, arr_size])
  have q3 := Lib.hid (show F.all (·.oneCell') = true by rw [hF]; exact arr_one 16 _)
  rw [← hF]
  rw [← hZ] at hz
  have HFF := Lib.hid hF
  have HLL := Lib.hid hl
  clear hF hZ hl
  go_wp2_with (refine wpList_store_row rfl 209 _ _ rfl w3.heap.size F rfl rfl _ _ (Blk.fresh w3 209 Z) q1.out q2.out q3.out ?_; rw [World.setRow_alloc_new])
  go_loopw [22] (fun i wr => ∃ k : Nat, i = .int .i64 k ∧ k ≤ n ∧ Hid (Blk wr w3.heap.size 209 (arr 16 (fun i => ((fst l i + ct (l.take k) i : Nat) : Int)))) ∧ Hid (Blk wr (w3.heap.size + 1) 3 (arr n (fun i => if i < k then (code l i : Int) else 0))) ∧ Hid (Below w.heap.size w wr))
    (fun i _ => n - (intOf i).toNat)
  case atStart =>
    have s1 := (Blk.fresh w3 209 F).below (below_alloc _ (.cells (arr n (fun _ => 0)) 3))
    have s2 := Blk.fresh (w3.alloc (.cells F 209)) 3 (arr n (fun _ => 0))
    rw [size_alloc, codes_zero l] at s2
    rw [HFF.out, next_zero] at s1
    refine ⟨0, rfl, by omega, Lib.hid ?_, Lib.hid ?_, Lib.hid (grows B3.out (grows (below_alloc _ _) (below_alloc _ _)))⟩
    · rw [HFF.out, next_zero]; exact s1
    · rw [codes_zero l]; exact s2
  case round =>
    obtain ⟨k, rfl, hk, HN, HT, HB⟩ := hrel
    clear hz hmk
    have HG := Lib.hid (show w.heap.size ≤ w3.heap.size from B3.out.size)
    by_cases hkn : k < n
    · have hkl : Hid (k < l.length) := Lib.hid (by rw [hln.out]; exact hkn)
      obtain ⟨b, off, rfl, hbl, hc0⟩ := HR.out.get (k := k) hkl.out
      have hc := (HB.out.cell (p := ⟨b, off + k, none⟩) hbl).trans hc0
      clear hc0
      have HCode : Hid (code l k = fst l (nth l k) + ct (l.take k) (nth l k)) := Lib.hid rfl
      obtain ⟨x, hx⟩ : ∃ x, x = nth l k := ⟨_, rfl⟩
      rw [← hx] at hc HCode
      have hx15 : x ≤ 15 := by rw [hx]; exact H15.out k
      have HX := Lib.hid hx
      clear hx
      rcases Nat.eq_zero_or_pos x with rfl | h0
      · go_wp2
        go_roundw
        case rel =>
          refine ⟨k + 1, by go_num, by omega, Lib.hid ?_, Lib.hid ?_, HB⟩
          · have h := HN.out
            rw [arr_congr (g := fun i => ((fst l i + ct (l.take (k + 1)) i : Nat) : Int)) (fun i _ => ?_)] at h
            · exact h
            · rw [ct_next hkl.out, if_neg (by have := HX.out; omega)]; rfl
          · have h := HT.out
            rw [arr_congr (g := fun i => if i < k + 1 then (code l i : Int) else 0) (fun i _ => ?_)] at h
            · exact h
            · by_cases e : i < k
              · rw [if_pos e, if_pos (by omega)]
              · rw [if_neg e]
                by_cases e2 : i = k
                · rw [if_pos (by omega), e2, HCode.out]; rfl
                · rw [if_neg (by omega)]
        case measure => simp [intOf]; omega
      · obtain ⟨y, hy⟩ : ∃ y, y = fst l x + ct (l.take k) x := ⟨_, rfl⟩
        have hyb : y ≤ 65536 * 320 := by
          have := fst_le l x
          have h3 := ct_take_le (l := l) (j := k) x
          have h2 : 2 ^ (x + 1) * l.length ≤ 2 ^ 16 * 320 := Nat.mul_le_mul (Nat.pow_le_pow_right (by omega) (by omega)) (by rw [hln.out]; exact h1)
          omega
        have hty : wr.cell? ⟨w3.heap.size, x, none⟩ = some (.int .i64 y) := by rw [HN.out.cell, arr_get _ (by omega), hy]
        have hfr := HN.out.frozen x
        have htz : wr.cell? ⟨w3.heap.size + 1, k, none⟩ = some (.int .i64 0) := by rw [HT.out.cell, arr_get _ (by omega), if_neg (by omega)]
        have hfz := HT.out.frozen k
        rw [← hy] at HCode
        have HY := Lib.hid hy
        clear hy
        go_wp2
        go_roundw
        case rel =>
          refine ⟨k + 1, by go_num, by omega, Lib.hid ?_, Lib.hid ?_, Lib.hid ((HB.out.setCell (by have := HG.out; show _ ≤ _ + 1; omega) _).setCell HG.out _)⟩
          · have h := (HN.out.apartStore (p := ⟨w3.heap.size + 1, k, none⟩) (u := .int .i64 y) (show w3.heap.size ≠ w3.heap.size + 1 by omega)).store x (.int .i64 (y + 1))
            rw [arr_set, arr_congr (g := fun i => ((fst l i + ct (l.take (k + 1)) i : Nat) : Int)) (fun i _ => ?_)] at h
            · exact h
            · rw [ct_next hkl.out, ← HX.out]
              by_cases e : i = x
              · rw [if_pos e, if_pos ⟨e, by omega⟩, e, HY.out]; omega
              · rw [if_neg e, if_neg (fun h => e h.1)]; rfl
          · have h := (HT.out.store k (.int .i64 y)).apartStore (p := ⟨w3.heap.size, x, none⟩) (u := .int .i64 (y + 1)) (show w3.heap.size + 1 ≠ w3.heap.size by omega)
            rw [arr_set, arr_congr (g := fun i => if i < k + 1 then (code l i : Int) else 0) (fun i _ => ?_)] at h
            · exact h
            · by_cases e : i = k
              · rw [if_pos e, if_pos (by omega), e, HCode.out]
              · rw [if_neg e]
                by_cases e2 : i < k
                · rw [if_pos e2, if_pos (by omega)]
                · rw [if_neg e2, if_neg (by omega)]
        case measure => simp [intOf]; omega
    · have hk8 := Lib.hid (show k = n by omega)
      have HT' : Hid (Blk wr (w3.heap.size + 1) 3 (arr n (fun i => (code l i : Int)))) := by
        rw [arr_congr (g := fun i => (code l i : Int)) (fun i hi => if_pos (by have := hk8.out; omega))] at HT; exact HT
      go_wp2
      go_ret2
      exact ⟨w3.heap.size + 1, rfl, by rw [← HLL.out]; exact HT'.out, by have := HG.out; omega, HB.out⟩
end Go.Proofs.YtnkninjdpgpkmaaGreatDoor.Nf
namespace Go.Proofs.YtnkninjdpgpkmaaGreatDoor.Ng
open Go.RowKit Go.Proofs.YtnkninjdpgpkmaaGreatDoor.Vm Go.Proofs.YtnkninjdpgpkmaaGreatDoor.Na Go.Proofs.YtnkninjdpgpkmaaGreatDoor.Nm Go.Proofs.YtnkninjdpgpkmaaGreatDoor.Bw Go.Proofs.YtnkninjdpgpkmaaGreatDoor.Ni Go.Proofs.YtnkninjdpgpkmaaGreatDoor.Nc Go.Proofs.YtnkninjdpgpkmaaGreatDoor.Nd Go.Proofs.YtnkninjdpgpkmaaGreatDoor.Ne Go.Proofs.YtnkninjdpgpkmaaGreatDoor.Nf

set_option maxRecDepth 100000 in
theorem rCodes_no {A : Option Addr} {n cap : Nat} {f : Nat → Int} (hn : n ≤ 9223372036854775807) (he : err n f ≠ 0) {w : World} (HC : Hid (row w A n f)) :
    Calls Tryz.prog 92 #[.slice A n cap] w fun e w' => e = .returned (.tuple #[.slice none 0 0, .int .i64 (err n f)]) ∧ Below w.heap.size w w' := by
  have hW := wrong_any (cap := cap) hn HC
  have hK := rKraft_any (cap := cap) hn HC
  rcases bad_cases n f with ⟨hb, _⟩ | ⟨hb, _⟩ | ⟨hb, h1, h2⟩
  · rw [err_bad (by omega), hb]
    rw [hb] at hW
    have HW := Lib.hid hW
    clear hW hb hK he
    go_enter Tryz.func92, Tryz.ntmps92
    go_wp2_with fail
    refine HW.out.mono ?_
    rintro e w' ⟨rfl, rfl⟩
    go_wp2
    go_ret2
    exact ⟨rfl, Below.refl _ _⟩
  · rw [err_bad (by omega), hb]
    rw [hb] at hW
    have HW := Lib.hid hW
    clear hW hb hK he
    go_enter Tryz.func92, Tryz.ntmps92
    go_wp2_with fail
    refine HW.out.mono ?_
    rintro e w' ⟨rfl, rfl⟩
    go_wp2
    go_ret2
    exact ⟨rfl, Below.refl _ _⟩
  · by_cases ho : 32768 < ksum (L n f) 16
    · rw [err_over hb ho]
      rw [kra_ok hb] at hK
      rw [hb] at hW
      have hk := ksum_small (n := n) (f := f) h1
      have HW := Lib.hid hW
      have HK := Lib.hid hK
      clear hW hb hK he h2
      go_enter Tryz.func92, Tryz.ntmps92
      go_wp2_with fail
      refine HW.out.mono ?_
      rintro e w' ⟨rfl, rfl⟩
      go_wp2_with fail
      refine HK.out.mono ?_
      rintro e w' ⟨rfl, rfl⟩
      go_wp2
      go_ret2
      exact ⟨rfl, Below.refl _ _⟩
    · exact absurd (err_ok hb ho) he

/-- The codes when the lengths below m stand, and of m the first j symbols. -/
def upto (l : List Nat) (m j i : Nat) : Int := if nth l i < m ∨ (nth l i = m ∧ i < j) then (code l i : Int) else 0
theorem code_none {l : List Nat} {i : Nat} (h : nth l i = 0) : code l i = 0 := by simp [code, h, fst, ct]
theorem upto_start (l : List Nat) (n : Nat) : arr n (fun _ => 0) = arr n (upto l 1 0) := arr_congr (fun i _ => by
  unfold upto
  by_cases h : nth l i = 0
  · rw [if_pos (by omega), code_none h]; rfl
  · rw [if_neg (by omega)])
theorem upto_turn (l : List Nat) (m n : Nat) : arr n (upto l m n) = arr n (upto l (m + 1) 0) := arr_congr (fun i hi => by
  unfold upto
  by_cases h : nth l i < m + 1
  · rw [if_pos (by omega), if_pos (by omega)]
  · rw [if_neg (by omega), if_neg (by omega)])
theorem upto_end {l : List Nat} (n : Nat) (h : ∀ i, nth l i ≤ 15) : arr n (upto l 16 0) = arr n (fun i => (code l i : Int)) := arr_congr (fun i _ => by
  unfold upto
  rw [if_pos (by have := h i; omega)])
theorem upto_same {l : List Nat} {m j : Nat} (n : Nat) (h : nth l j ≠ m) : arr n (upto l m j) = arr n (upto l m (j + 1)) := arr_congr (fun i _ => by
  unfold upto
  by_cases e : i = j
  · subst e
    by_cases h2 : nth l i < m
    · rw [if_pos (by omega), if_pos (by omega)]
    · rw [if_neg (by omega), if_neg (by omega)]
  · by_cases h2 : nth l i < m ∨ (nth l i = m ∧ i < j)
    · rw [if_pos h2, if_pos (by omega)]
    · rw [if_neg h2, if_neg (by omega)])
theorem upto_set {l : List Nat} {m j : Nat} (n : Nat) (h : nth l j = m) : (arr n (upto l m j)).setIfInBounds j (.int .i64 ((fst l m + ct (l.take j) m : Nat) : Int)) = arr n (upto l m (j + 1)) := by
  rw [arr_set]
  refine arr_congr (fun i _ => ?_)
  unfold upto
  by_cases e : i = j
  · subst e
    rw [if_pos rfl, if_pos (by omega), code, h]
  · rw [if_neg e]
    by_cases h2 : nth l i < m ∨ (nth l i = m ∧ i < j)
    · rw [if_pos h2, if_pos (by omega)]
    · rw [if_neg h2, if_neg (by omega)]

set_option maxRecDepth 100000 in
theorem rCodes_ok {A : Option Addr} {n cap : Nat} {f : Nat → Int} (he : err n f = 0) {w : World} (HC : Hid (row w A n f)) :
    Calls Tryz.prog 92 #[.slice A n cap] w fun e w' => ∃ g, e = .returned (.tuple #[.slice (some ⟨g, 0, none⟩) n n, .int .i64 0]) ∧ Blk w' g 3 (arr n (fun i => (code (L n f) i : Int))) ∧ w.heap.size ≤ g ∧ Below w.heap.size w w' := by
  obtain ⟨h1, h2, h3⟩ := err_zero he
  have hb := bad_ok h1 h2
  have hW := wrong_any (cap := cap) (by omega) HC
  have hK := rKraft_any (cap := cap) (by omega) HC
  rw [hb] at hW
  rw [kra_ok hb] at hK
  have HW := Lib.hid hW
  have HK := Lib.hid hK
  have H15 := Lib.hid (L_le h2)
  have HR := Lib.hid (L_row h2 HC.out)
  have hmk := made n (by omega)
  obtain ⟨l, hl⟩ : ∃ l, l = L n f := ⟨_, rfl⟩
  have hln : Hid (l.length = n) := Lib.hid (by rw [hl, L_length])
  rw [← hl] at H15 HR HK h3 ⊢
  clear hW h2 he hK hb hl HC
  go_enter Tryz.func92, Tryz.ntmps92
  go_wp2_with fail
  refine HW.out.mono ?_
  rintro e w' ⟨rfl, rfl⟩
  go_wp2_with fail
  refine HK.out.mono ?_
  rintro e w' ⟨rfl, rfl⟩
  go_wp2
  go_loopw [7, 6] (fun i c wr => ∃ m : Nat, i = .int .i64 m ∧ c = .int .i64 (fst l m) ∧ 1 ≤ m ∧ m ≤ 16 ∧ Hid (Blk wr w.heap.size 3 (arr n (upto l m 0))) ∧ Hid (Below w.heap.size w wr))
    (fun i _ _ => 16 - (intOf i).toNat)
  case atStart =>
    exact ⟨1, rfl, rfl, by omega, by omega, Lib.hid (by rw [upto_start l]; exact Blk.fresh w _ _), Lib.hid (below_alloc _ _)⟩
  case round =>
    obtain ⟨m, rfl, rfl, hm1, hm16, HT, HB⟩ := hrel
    clear hmk
    by_cases hm : m ≤ 15
    · go_wp2
      obtain ⟨wo, rfl⟩ : ∃ wo : World, wo = wr := ⟨_, rfl⟩
      go_loopw [8, 6] (fun i c wr => ∃ j : Nat, i = .int .i64 j ∧ c = .int .i64 ((fst l m + ct (l.take j) m : Nat) : Int) ∧ j ≤ n ∧ Hid (Blk wr w.heap.size 3 (arr n (upto l m j))) ∧ Hid (Below w.heap.size w wr))
        (fun i _ _ => n - (intOf i).toNat)
      case atStart => exact ⟨0, rfl, by simp [ct_nil], by omega, HT, HB⟩
      case round =>
        obtain ⟨j, rfl, rfl, hj, HT2, HB2⟩ := hrel
        have hyb : fst l m + ct (l.take j) m ≤ 65536 * 320 := by
          have := fst_le l m
          have h3 := ct_take_le (l := l) (j := j) m
          have h2 : 2 ^ (m + 1) * l.length ≤ 2 ^ 16 * 320 := Nat.mul_le_mul (Nat.pow_le_pow_right (by omega) (by omega)) (by rw [hln.out]; exact h1)
          omega
        by_cases hjn : j < n
        · have hjl : Hid (j < l.length) := Lib.hid (by rw [hln.out]; exact hjn)
          obtain ⟨b, off, rfl, hbl, hc0⟩ := HR.out.get (k := j) hjl.out
          have hc := (HB2.out.cell (p := ⟨b, off + j, none⟩) hbl).trans hc0
          clear hc0
          have HN := Lib.hid (ct_next hjl.out m)
          have HS := Lib.hid (fun h => upto_same (l := l) (m := m) (j := j) n h)
          have HS2 := Lib.hid (fun h => upto_set (l := l) (m := m) (j := j) n h)
          obtain ⟨x, hx⟩ : ∃ x, x = nth l j := ⟨_, rfl⟩
          obtain ⟨y, hy⟩ : ∃ y, y = fst l m + ct (l.take j) m := ⟨_, rfl⟩
          rw [← hx] at hc HN HS HS2
          rw [← hy] at hyb HS2 ⊢
          have HY := Lib.hid hy
          clear hx hy
          by_cases hxm : x = m
          · subst hxm
            have htz : wr.cell? ⟨w.heap.size, j, none⟩ = some (.int .i64 (upto l x j j)) := by rw [HT2.out.cell, arr_get _ hjn]
            have hfz := HT2.out.frozen j
            go_wp2
            go_roundw
            case rel =>
              refine ⟨j + 1, by go_num, ?_, by omega, Lib.hid ?_, Lib.hid (HB2.out.setCell (Nat.le_refl _) _)⟩
              · have := HN.out
                rw [if_pos ⟨rfl, by omega⟩] at this
                rw [this, ← Nat.add_assoc, ← HY.out]; simp
              · have h := HT2.out.store j (.int .i64 y)
                rw [HS2.out rfl] at h; exact h
            case measure => simp [intOf]; omega
          · have hxm' : ((x : Int) == (m : Int)) = false := by simp; omega
            go_wp2
            go_roundw
            case rel =>
              refine ⟨j + 1, by go_num, ?_, by omega, Lib.hid ?_, HB2⟩
              · have := HN.out
                rw [if_neg (fun h => hxm h.1.symm)] at this
                rw [this, Nat.add_zero, ← HY.out]
              · rw [← HS.out hxm]; exact HT2.out
            case measure => simp [intOf]; omega
        · have hj8 := Lib.hid (show j = n by omega)
          have HC8 : Hid (fst l m + ct (l.take j) m = fst l m + ct l m) := Lib.hid (by rw [hj8.out, ← hln.out, List.take_length])
          obtain ⟨y, hy⟩ : ∃ y, y = fst l m + ct (l.take j) m := ⟨_, rfl⟩
          rw [← hy] at hyb HC8 ⊢
          clear hy
          go_wp2
          go_roundw
          case rel =>
            refine ⟨m + 1, by go_num, ?_, by omega, by omega, Lib.hid ?_, HB2⟩
            · rw [fst, ← HC8.out]; simp
            · rw [← upto_turn]
              have h := HT2.out
              rw [hj8.out] at h; exact h
          case measure => simp [intOf]; omega
    · have hm8 := Lib.hid (show m = 16 by omega)
      go_wp2
      go_ret2
      exact ⟨w.heap.size, rfl, by rw [← upto_end n H15.out, ← hm8.out]; exact HT.out, Nat.le_refl _, HB.out⟩
end Go.Proofs.YtnkninjdpgpkmaaGreatDoor.Ng
namespace Go.Proofs.YtnkninjdpgpkmaaGreatDoor.Sb
open Go.RowKit Go.Proofs.YtnkninjdpgpkmaaGreatDoor.Vm Go.Proofs.YtnkninjdpgpkmaaGreatDoor.Na Go.Proofs.YtnkninjdpgpkmaaGreatDoor.Bw Go.Proofs.YtnkninjdpgpkmaaGreatDoor.Sm

theorem infoL : (Tryz.prog.info? 225).map (fun i => (i.zero, i.size)) = some (some (.agg (Array.replicate 29 (.int .i64 0))), 29) := by kernel_rfl
theorem infoD : (Tryz.prog.info? 228).map (fun i => (i.zero, i.size)) = some (some (.agg (Array.replicate 30 (.int .i64 0))), 30) := by kernel_rfl

theorem run_index_arr (t : TypeId) (n : Nat) (h : Tryz.prog.underlying t = some (.array n 3)) (F : Array Value) (k : Nat) (hk : k < n) (x : Value) (hx : F[k]? = some x) (w : World) :
    (Instr.index t (.agg F) (.int .i64 (k : Int))).run Tryz.prog w = .ok x w := by
  simp [Instr.index, run_underlying h, asIntOf, hk, hx, go_sem]
theorem results_tmp4 {fn : Func} {t u v s : Tmp} (h : fn.results = #[.tmp t, .tmp u, .tmp v, .tmp s]) (tmps : Array Value) (P : Program) (w : World) :
    (results fn tmps).run P w = .ok (.tuple #[tmps.getD t undef, tmps.getD u undef, tmps.getD v undef, tmps.getD s undef]) w := by
  simp [results, h]

set_option maxRecDepth 100000 in
theorem lengthBits_any {k : Nat} (hk : k ≤ 28) (w : World) :
    Calls Tryz.prog 172 #[.int .i64 k] w fun e w' => e = .returned (.int .i64 (lb k)) ∧ w = w' := by
  by_cases h28 : k = 28
  · subst h28
    go_enter Tryz.func172, Tryz.ntmps172
    go_wp2
    go_ret
    exact ⟨rfl, rfl⟩
  · have h8 : ¬ ((k : Int) = 28) := by omega
    go_enter Tryz.func172, Tryz.ntmps172
    go_wp2
    all_goals
      go_ret
      refine ⟨ret_i64 ?_, rfl⟩
      unfold lb fb
      rw [if_neg h28]
      omega
set_option maxRecDepth 100000 in
theorem distBits_any {k : Nat} (hk : k < 30) (w : World) :
    Calls Tryz.prog 174 #[.int .i64 k] w fun e w' => e = .returned (.int .i64 (fb 2 k)) ∧ w = w' := by
  go_enter Tryz.func174, Tryz.ntmps174
  go_wp2
  all_goals
    go_ret
    refine ⟨ret_i64 ?_, rfl⟩
    unfold fb
    omega

theorem start2 (w : World) (t1 t2 : TypeId) (c1 c2 : Array Value) :
    Blk ((w.alloc (.cells c1 t1)).alloc (.cells c2 t2)) w.heap.size t1 c1 ∧ Blk ((w.alloc (.cells c1 t1)).alloc (.cells c2 t2)) (w.heap.size + 1) t2 c2
    ∧ Below w.heap.size w ((w.alloc (.cells c1 t1)).alloc (.cells c2 t2)) := by
  refine ⟨(Blk.fresh w _ _).below (below_alloc _ _), ?_, grows (below_alloc _ _) (below_alloc _ _)⟩
  have := Blk.fresh (w.alloc (.cells c1 t1)) t2 c2
  rw [size_alloc] at this; exact this
/-- The bases so far. -/
theorem part_zero (n : Nat) (f : Nat → Nat) : arr n (fun _ => 0) = arr n (fun i => if i < 0 then (f i : Int) else 0) := arr_congr (fun i _ => by rw [if_neg (by omega)])
theorem part_next (n k : Nat) (f : Nat → Nat) (x : Nat) (hx : x = f k) : (arr n (fun i => if i < k then (f i : Int) else 0)).setIfInBounds k (.int .i64 (x : Int)) = arr n (fun i => if i < k + 1 then (f i : Int) else 0) := by
  rw [arr_set]
  refine arr_congr (fun i _ => ?_)
  by_cases e : i = k
  · rw [if_pos e, if_pos (by omega), e, hx]
  · rw [if_neg e]
    by_cases e2 : i < k
    · rw [if_pos e2, if_pos (by omega)]
    · rw [if_neg e2, if_neg (by omega)]
theorem part_all (n k : Nat) (f : Nat → Nat) (h : n ≤ k) : arr n (fun i => if i < k then (f i : Int) else 0) = arr n (fun i => (f i : Int)) :=
  arr_congr (fun i hi => if_pos (by omega))
theorem shl_one (b x : Nat) (hb : b ≤ 13) (hx : x ≤ 100000) : wrap64 ((x : Int) + wrap64 (2 ^ b)) = ((x + 2 ^ b : Nat) : Int) := by
  have h : (2 : Nat) ^ b ≤ 2 ^ 13 := Nat.pow_le_pow_right (by omega) hb
  have e : (2 ^ b : Int) = ((2 ^ b : Nat) : Int) := by simp
  rw [e]
  obtain ⟨m, hm⟩ : ∃ m, m = (2 : Nat) ^ b := ⟨_, rfl⟩
  rw [← hm] at h ⊢
  rw [wrap64_in (n := (m : Int)) (by omega) (by omega), wrap64_in (by omega) (by omega)]; simp

set_option maxRecDepth 100000 in
theorem distBases_any (w : World) :
    Calls Tryz.prog 173 #[] w fun e w' => e = .returned (.agg (arr 30 (fun i => (dB i : Int)))) ∧ Below w.heap.size w w' := by
  obtain ⟨hz, hsz⟩ := zero_of_info infoD
  rw [arr_zero] at hz
  go_enter Tryz.func173, Tryz.ntmps173
  go_wp2
  go_loopw [4, 2] (fun i s wr => ∃ k x : Nat, i = .int .i64 k ∧ s = .int .i64 x ∧ Hid (x = bas 2 1 k) ∧ k ≤ 30 ∧ Hid (Blk wr w.heap.size 228 (arr 30 (fun _ => 0)))
      ∧ Hid (Blk wr (w.heap.size + 1) 228 (arr 30 (fun i => if i < k then (dB i : Int) else 0))) ∧ Hid (Below w.heap.size w wr))
    (fun i _ _ => 30 - (intOf i).toNat)
  case atStart =>
    obtain ⟨s1, s2, s3⟩ := start2 w 228 228 (arr 30 (fun _ => 0)) (arr 30 (fun _ => 0))
    exact ⟨0, 1, rfl, rfl, Lib.hid rfl, by omega, Lib.hid s1, Lib.hid (part_zero 30 dB ▸ s2), Lib.hid s3⟩
  case round =>
    obtain ⟨k, x, rfl, rfl, HX, hk, HR, HT, HB⟩ := hrel
    by_cases hk30 : k < 30
    · clear hz hsz
      have hx : x ≤ 32769 := by rw [HX.out]; exact bas2_le hk
      have htz : wr.cell? ⟨w.heap.size + 1, k, none⟩ = some (.int .i64 0) := by rw [HT.out.cell, arr_get _ hk30, if_neg (by omega)]
      have hfr := HT.out.frozen k
      have hb := fb2_le hk30
      have HQ := Lib.hid (shl_one (fb 2 k) x hb (by omega))
      have HD := Lib.hid (distBits_any hk30)
      generalize hq : fb 2 k = q at *
      go_wp2_with fail
      refine (HD.out _).mono ?_
      rintro e w' ⟨rfl, rfl⟩
      go_wp2
      go_roundw
      case rel =>
        refine ⟨k + 1, x + 2 ^ q, by go_num, by rw [HQ.out], Lib.hid (by rw [bas_next, hq, HX.out]), by omega, Lib.hid ?_, Lib.hid ?_, Lib.hid ?_⟩
        · exact HR.out.apartStore (by show _ ≠ _ + 1; omega)
        · have h := HT.out.store k (.int .i64 (x : Int))
          rw [part_next 30 k dB x HX.out] at h
          exact h
        · exact HB.out.setCell (by show _ ≤ _ + 1; omega) _
      case measure => simp [intOf]; omega
    · have HT' : Hid (Blk wr (w.heap.size + 1) 228 (arr 30 (fun i => (dB i : Int)))) := by
        rw [part_all 30 k dB (by omega)] at HT; exact HT
      have HZ := Lib.hid hsz
      clear hz hsz
      go_wp2_with (first | (refine wpList_load_row rfl 228 _ rfl (w.heap.size + 1) rfl _ _ _ _ HT'.out Tryz.underlying228 rfl (by rw [arr_size]; exact HZ.out) ?_) | (refine wpList_store_row rfl 228 _ _ rfl w.heap.size (arr 30 (fun i => (dB i : Int))) rfl rfl _ _ HR.out (by rw [arr_size]; exact HZ.out) (by rw [arr_size, arr_size]) (arr_one 30 _) ?_))
      refine bodyPost_ret (v := .agg (arr 30 (fun i => (dB i : Int)))) ?_ rfl ⟨rfl, Below_setRow HB.out (Nat.le_refl _) _⟩
      exact results_cell_row rfl _ _ w.heap.size 228 _ _ _ rfl (setRow_heap _ _ _ _ _ _ HR.out) Tryz.underlying228 rfl (by rw [arr_size]; exact HZ.out)

/-- The bases of the lengths so far. -/
theorem len_top (x : Int) (hx : x = 258) : (arr 29 (fun i => if i < 28 then (lB i : Int) else 0)).setIfInBounds 28 (.int .i64 x) = arr 29 (fun i => (lB i : Int)) := by
  rw [arr_set]
  refine arr_congr (fun i hi => ?_)
  by_cases e : i = 28
  · rw [if_pos e, e, hx]; rfl
  · rw [if_neg e, if_pos (by omega)]

set_option maxRecDepth 100000 in
theorem lengthBases_any (w : World) :
    Calls Tryz.prog 170 #[] w fun e w' => e = .returned (.agg (arr 29 (fun i => (lB i : Int)))) ∧ Below w.heap.size w w' := by
  obtain ⟨hz, hsz⟩ := zero_of_info infoL
  rw [arr_zero] at hz
  go_enter Tryz.func170, Tryz.ntmps170
  go_wp2
  go_loopw [4, 2] (fun i s wr => ∃ k x : Nat, i = .int .i64 k ∧ s = .int .i64 x ∧ Hid (x = bas 4 3 k) ∧ k ≤ 28 ∧ Hid (Blk wr w.heap.size 225 (arr 29 (fun _ => 0)))
      ∧ Hid (Blk wr (w.heap.size + 1) 225 (arr 29 (fun i => if i < k then (lB i : Int) else 0))) ∧ Hid (Below w.heap.size w wr))
    (fun i _ _ => 28 - (intOf i).toNat)
  case atStart =>
    obtain ⟨s1, s2, s3⟩ := start2 w 225 225 (arr 29 (fun _ => 0)) (arr 29 (fun _ => 0))
    exact ⟨0, 3, rfl, rfl, Lib.hid rfl, by omega, Lib.hid s1, Lib.hid (part_zero 29 lB ▸ s2), Lib.hid s3⟩
  case round =>
    obtain ⟨k, x, rfl, rfl, HX, hk, HR, HT, HB⟩ := hrel
    by_cases hk28 : k < 28
    · clear hz hsz
      have hx : x ≤ 259 := by rw [HX.out]; exact bas4_le hk
      have htz : wr.cell? ⟨w.heap.size + 1, k, none⟩ = some (.int .i64 0) := by rw [HT.out.cell, arr_get _ (by omega), if_neg (by omega)]
      have hfr := HT.out.frozen k
      have hb := lb_le hk
      have HQ := Lib.hid (shl_one (lb k) x (by omega) (by omega))
      have HD := Lib.hid (lengthBits_any hk)
      have HL := Lib.hid (lb_low hk28)
      generalize hq : lb k = q at *
      go_wp2_with fail
      refine (HD.out _).mono ?_
      rintro e w' ⟨rfl, rfl⟩
      go_wp2
      go_roundw
      case rel =>
        refine ⟨k + 1, x + 2 ^ q, by go_num, by rw [HQ.out], Lib.hid (by rw [bas_next, ← HL.out, HX.out]), by omega, Lib.hid ?_, Lib.hid ?_, Lib.hid ?_⟩
        · exact HR.out.apartStore (by show _ ≠ _ + 1; omega)
        · have h := HT.out.store k (.int .i64 (x : Int))
          rw [part_next 29 k lB x (by rw [HX.out, lB_low hk28])] at h
          exact h
        · exact HB.out.setCell (by show _ ≤ _ + 1; omega) _
      case measure => simp [intOf]; omega
    · have hk8 := Lib.hid (show k = 28 by omega)
      have htz : wr.cell? ⟨w.heap.size + 1, 28, none⟩ = some (.int .i64 0) := by rw [HT.out.cell, arr_get _ (by omega), if_neg (by omega)]
      have hfr := HT.out.frozen 28
      have HT' : Hid (Blk (wr.setCell ⟨w.heap.size + 1, 28, none⟩ (.int .i64 258)) (w.heap.size + 1) 225 (arr 29 (fun i => (lB i : Int)))) := by
        rw [hk8.out] at HT
        have h := HT.out.store 28 (.int .i64 258)
        rw [len_top 258 rfl] at h
        exact Lib.hid h
      have HR' : Hid (Blk (wr.setCell ⟨w.heap.size + 1, 28, none⟩ (.int .i64 258)) w.heap.size 225 (arr 29 (fun _ => 0))) := Lib.hid (HR.out.apartStore (by show _ ≠ _ + 1; omega))
      have HZ := Lib.hid hsz
      clear hz hsz
      go_wp2_with (first | (refine wpList_load_row rfl 225 _ rfl (w.heap.size + 1) rfl _ _ _ _ HT'.out Tryz.underlying225 rfl (by rw [arr_size]; exact HZ.out) ?_) | (refine wpList_store_row rfl 225 _ _ rfl w.heap.size (arr 29 (fun i => (lB i : Int))) rfl rfl _ _ HR'.out (by rw [arr_size]; exact HZ.out) (by rw [arr_size, arr_size]) (arr_one 29 _) ?_))
      refine bodyPost_ret (v := .agg (arr 29 (fun i => (lB i : Int)))) ?_ rfl ⟨rfl, Below_setRow (HB.out.setCell (by show _ ≤ _ + 1; omega) _) (Nat.le_refl _) _⟩
      exact results_cell_row rfl _ _ w.heap.size 225 _ _ _ rfl (setRow_heap _ _ _ _ _ _ HR'.out) Tryz.underlying225 rfl (by rw [arr_size]; exact HZ.out)

set_option maxRecDepth 100000 in
theorem lastUpTo_any {A : Option Addr} {m cap z : Nat} {f : Nat → Nat} (hm : m < 1000000) {w : World} (HC : Hid (row w A (m + 1) (fun i => (f i : Int)))) :
    Calls Tryz.prog 171 #[.slice A (m + 1) cap, .int .i64 z] w fun e w' => e = .returned (.int .i64 (sr f z m)) ∧ w = w' := by
  go_enter Tryz.func171, Tryz.ntmps171
  go_wp2
  go_loopw [5] (fun i wr => ∃ k : Nat, i = .int .i64 k ∧ k ≤ m ∧ Hid (sr f z m = sr f z k) ∧ wr = w) (fun i _ => (intOf i).toNat)
  case atStart => exact ⟨m, by go_num, by omega, Lib.hid rfl, rfl⟩
  case round =>
    obtain ⟨k, rfl, hk, HS, rfl⟩ := hrel
    obtain ⟨b, off, rfl, hbl, hc'⟩ := HC.out k (by omega)
    have hc : wr.cell? ⟨b, off + k, none⟩ = some (.int .i64 (f k : Int)) := hc'
    clear hc'
    rcases Nat.eq_zero_or_pos k with rfl | h0
    · go_wp2
      go_ret
      exact ⟨ret_i64 (by rw [HS.out]; rfl), rfl⟩
    · obtain ⟨x, hx⟩ : ∃ x, x = f k := ⟨_, rfl⟩
      rw [← hx] at hc
      have HX := Lib.hid hx
      clear hx
      by_cases hxz : x ≤ z
      · go_wp2
        go_ret
        exact ⟨ret_i64 (by rw [HS.out, sr_at (by rw [← HX.out]; exact hxz)]), rfl⟩
      · go_wp2
        go_roundw
        case rel =>
          refine ⟨k - 1, by go_num, by omega, Lib.hid ?_, trivial⟩
          obtain ⟨j, rfl⟩ : ∃ j, k = j + 1 := ⟨k - 1, by omega⟩
          rw [HS.out, sr_past (by rw [← HX.out]; omega)]
          rfl
        case measure => simp [intOf]; omega
end Go.Proofs.YtnkninjdpgpkmaaGreatDoor.Sb
namespace Go.Proofs.YtnkninjdpgpkmaaGreatDoor.Sp
open Go.RowKit Go.Proofs.YtnkninjdpgpkmaaGreatDoor.Vm Go.Proofs.YtnkninjdpgpkmaaGreatDoor.Na Go.Proofs.YtnkninjdpgpkmaaGreatDoor.Bw Go.Proofs.YtnkninjdpgpkmaaGreatDoor.Sm Go.Proofs.YtnkninjdpgpkmaaGreatDoor.Sb

/-- What Length and Dist answer. -/
def lenA (z : Int) : Value := if 257 ≤ z ∧ z ≤ 285 then .tuple #[.int .i64 (lB (z - 257).toNat), .int .i64 (lb (z - 257).toNat), .bool true] else .tuple #[.int .i64 0, .int .i64 0, .bool false]
def disA (z : Int) : Value := if 0 ≤ z ∧ z ≤ 29 then .tuple #[.int .i64 (dB z.toNat), .int .i64 (fb 2 z.toNat), .bool true] else .tuple #[.int .i64 0, .int .i64 0, .bool false]
theorem ret4 {a b c a' c' : Int} {e : Value} (h : a = a') (h2 : c = c') : Ending.returned (.tuple #[.int .i64 a, .int .i64 b, .int .i64 c, e]) = .returned (.tuple #[.int .i64 a', .int .i64 b, .int .i64 c', e]) := by rw [h, h2]
/-- What OfLength and OfDist answer. -/
def ofL (z : Int) : Value := if 3 ≤ z ∧ z ≤ 258 then .tuple #[.int .i64 (257 + lS z.toNat : Nat), .int .i64 (lb (lS z.toNat)), .int .i64 (z.toNat - lB (lS z.toNat) : Nat), .int .i64 0] else .tuple #[.int .i64 0, .int .i64 0, .int .i64 0, .int .i64 1]
def ofD (z : Int) : Value := if 1 ≤ z ∧ z ≤ 32768 then .tuple #[.int .i64 (dS z.toNat), .int .i64 (fb 2 (dS z.toNat)), .int .i64 (z.toNat - dB (dS z.toNat) : Nat), .int .i64 0] else .tuple #[.int .i64 0, .int .i64 0, .int .i64 0, .int .i64 1]
theorem lenA_in {z : Int} {k : Nat} (hz : z - 257 = (k : Int)) (h : k ≤ 28) : lenA z = .tuple #[.int .i64 (lB k), .int .i64 (lb k), .bool true] := by
  unfold lenA
  rw [if_pos (by omega), show (z - 257).toNat = k by omega]
theorem lenA_out {z : Int} (h : z < 257 ∨ 285 < z) : lenA z = .tuple #[.int .i64 0, .int .i64 0, .bool false] := by
  unfold lenA; rw [if_neg (by omega)]
theorem disA_in {k : Nat} (h : k < 30) : disA (k : Int) = .tuple #[.int .i64 (dB k), .int .i64 (fb 2 k), .bool true] := by
  unfold disA
  rw [if_pos (by omega), Int.toNat_natCast]
theorem disA_out {z : Int} (h : z < 0 ∨ 29 < z) : disA z = .tuple #[.int .i64 0, .int .i64 0, .bool false] := by
  unfold disA; rw [if_neg (by omega)]
theorem ofL_in {n : Nat} (h : 3 ≤ n) (h2 : n ≤ 258) : ofL (n : Int) = .tuple #[.int .i64 (257 + lS n : Nat), .int .i64 (lb (lS n)), .int .i64 (n - lB (lS n) : Nat), .int .i64 0] := by
  unfold ofL; rw [if_pos (by omega), Int.toNat_natCast]
theorem ofL_out {z : Int} (h : z < 3 ∨ 258 < z) : ofL z = .tuple #[.int .i64 0, .int .i64 0, .int .i64 0, .int .i64 1] := by
  unfold ofL; rw [if_neg (by omega)]
theorem ofD_in {n : Nat} (h : 1 ≤ n) (h2 : n ≤ 32768) : ofD (n : Int) = .tuple #[.int .i64 (dS n), .int .i64 (fb 2 (dS n)), .int .i64 (n - dB (dS n) : Nat), .int .i64 0] := by
  unfold ofD; rw [if_pos (by omega), Int.toNat_natCast]
theorem ofD_out {z : Int} (h : z < 1 ∨ 32768 < z) : ofD z = .tuple #[.int .i64 0, .int .i64 0, .int .i64 0, .int .i64 1] := by
  unfold ofD; rw [if_neg (by omega)]

set_option maxRecDepth 100000 in
theorem Length_any {z : Int} (h0 : -9223372036854775808 ≤ z) (h1 : z ≤ 9223372036854775807) (w : World) :
    Calls Tryz.prog 162 #[.int .i64 z] w fun e w' => e = .returned (lenA z) ∧ Below w.heap.size w w' := by
  rcases (show z < 257 ∨ 285 < z ∨ (257 ≤ z ∧ z ≤ 285) by omega) with h | h | h
  · rw [lenA_out (.inl h)]
    go_enter Tryz.func162, Tryz.ntmps162
    go_wp2
    go_ret3
    exact ⟨rfl, Below.refl _ _⟩
  · rw [lenA_out (.inr h)]
    have h' : ¬ z < 257 := by omega
    go_enter Tryz.func162, Tryz.ntmps162
    go_wp2
    go_ret3
    exact ⟨rfl, Below.refl _ _⟩
  · obtain ⟨k, hzk⟩ : ∃ k : Nat, z - 257 = (k : Int) := ⟨(z - 257).toNat, by omega⟩
    have hk : k ≤ 28 := by omega
    rw [lenA_in hzk hk]
    have hz1 : ¬ z < 257 := by omega
    have hz2 : ¬ 286 ≤ z := by omega
    obtain ⟨F, hF⟩ : ∃ F, F = arr 29 (fun i => (lB i : Int)) := ⟨_, rfl⟩
    have hIx := run_index_arr 225 29 Tryz.underlying225 F k (by omega) (.int .i64 (lB k)) (by rw [hF, arr_get _ (by omega)])
    have HB := Lib.hid lengthBases_any
    rw [← hF] at HB
    have HL := Lib.hid (lengthBits_any hk)
    clear hF
    generalize lb k = q at *
    generalize lB k = x at *
    have hk' : ((k : Int) < 29) := by omega
    go_enter Tryz.func162, Tryz.ntmps162
    go_wp2
    go_region_held3 (fun w' => Below w.heap.size w w')
      (first | exact below_drew (Below.refl _ _) | assumption | (apply grows; assumption; assumption))
      (first | (go_at_call 170; refine (HB.out _).mono ?_; rintro e w' ⟨rfl, hb⟩) | (go_at_call 172; refine (HL.out _).mono ?_; rintro e w' ⟨rfl, rfl⟩))
    all_goals
      go_wp2
      go_ret3
      exact ⟨rfl, by assumption⟩

set_option maxRecDepth 100000 in
theorem Dist_any {z : Int} (h0 : -9223372036854775808 ≤ z) (h1 : z ≤ 9223372036854775807) (w : World) :
    Calls Tryz.prog 163 #[.int .i64 z] w fun e w' => e = .returned (disA z) ∧ Below w.heap.size w w' := by
  rcases (show z < 0 ∨ 29 < z ∨ (0 ≤ z ∧ z ≤ 29) by omega) with h | h | h
  · rw [disA_out (.inl h)]
    go_enter Tryz.func163, Tryz.ntmps163
    go_wp2
    go_ret3
    exact ⟨rfl, Below.refl _ _⟩
  · rw [disA_out (.inr h)]
    have h' : ¬ z < 0 := by omega
    go_enter Tryz.func163, Tryz.ntmps163
    go_wp2
    go_ret3
    exact ⟨rfl, Below.refl _ _⟩
  · obtain ⟨k, rfl⟩ : ∃ k : Nat, z = (k : Int) := ⟨z.toNat, by omega⟩
    have hk : k < 30 := by omega
    rw [disA_in hk]
    obtain ⟨F, hF⟩ : ∃ F, F = arr 30 (fun i => (dB i : Int)) := ⟨_, rfl⟩
    have hIx := run_index_arr 228 30 Tryz.underlying228 F k (by omega) (.int .i64 (dB k)) (by rw [hF, arr_get _ (by omega)])
    have HB := Lib.hid distBases_any
    rw [← hF] at HB
    have HL := Lib.hid (distBits_any hk)
    clear hF
    generalize fb 2 k = q at *
    generalize dB k = x at *
    have hk' : ((k : Int) < 30) := by omega
    go_enter Tryz.func163, Tryz.ntmps163
    go_wp2
    go_region_held3 (fun w' => Below w.heap.size w w')
      (first | exact below_drew (Below.refl _ _) | assumption | (apply grows; assumption; assumption))
      (first | (go_at_call 173; refine (HB.out _).mono ?_; rintro e w' ⟨rfl, hb⟩) | (go_at_call 174; refine (HL.out _).mono ?_; rintro e w' ⟨rfl, rfl⟩))
    all_goals
      go_wp2
      go_ret3
      exact ⟨rfl, by assumption⟩

theorem last29 (z : Nat) (g cap : Nat) {w : World} (h : Blk w g 225 (arr 29 (fun i => (lB i : Int)))) :
    Calls Tryz.prog 171 #[.slice (some ⟨g, 0, none⟩) 29 cap, .int .i64 z] w fun e w' => e = .returned (.int .i64 (lS z)) ∧ w = w' :=
  lastUpTo_any (m := 28) (by omega) (Lib.hid (row_of_blk h))
theorem last30 (z : Nat) (g cap : Nat) {w : World} (h : Blk w g 228 (arr 30 (fun i => (dB i : Int)))) :
    Calls Tryz.prog 171 #[.slice (some ⟨g, 0, none⟩) 30 cap, .int .i64 z] w fun e w' => e = .returned (.int .i64 (dS z)) ∧ w = w' :=
  lastUpTo_any (m := 29) (by omega) (Lib.hid (row_of_blk h))

set_option maxRecDepth 100000 in
theorem OfLength_any {z : Int} (h0 : -9223372036854775808 ≤ z) (h1 : z ≤ 9223372036854775807) (w : World) :
    Calls Tryz.prog 143 #[.int .i64 z] w fun e w' => e = .returned (ofL z) ∧ Below w.heap.size w w' := by
  rcases (show z < 3 ∨ 258 < z ∨ (3 ≤ z ∧ z ≤ 258) by omega) with h | h | h
  · rw [ofL_out (.inl h)]
    go_enter Tryz.func143, Tryz.ntmps143
    go_wp2
    refine bodyPost_ret (results_tmp4 rfl _ _ _) rfl ?_
    exact ⟨rfl, Below.refl _ _⟩
  · rw [ofL_out (.inr h)]
    have h' : ¬ z < 3 := by omega
    go_enter Tryz.func143, Tryz.ntmps143
    go_wp2
    refine bodyPost_ret (results_tmp4 rfl _ _ _) rfl ?_
    exact ⟨rfl, Below.refl _ _⟩
  · obtain ⟨n, rfl⟩ : ∃ n : Nat, z = (n : Int) := ⟨z.toNat, by omega⟩
    have hn3 : 3 ≤ n := by omega
    have hn8 : n ≤ 258 := by omega
    rw [ofL_in hn3 hn8]
    have hk := lS_le n
    have hlo := lS_lo hn3
    obtain ⟨F, hF⟩ : ∃ F, F = arr 29 (fun i => (lB i : Int)) := ⟨_, rfl⟩
    obtain ⟨Z, hZ⟩ : ∃ Z, Z = arr 29 (fun _ => (0 : Int)) := ⟨_, rfl⟩
    obtain ⟨hz, hsz⟩ := zero_of_info infoL
    rw [arr_zero, ← hZ] at hz
    have q1 := Lib.hid (show (Tryz.prog.info? 225).map (·.size) = some F.size by rw [hF, arr_size]; exact hsz)
    have q2 := Lib.hid (show Z.size = F.size by rw [hF, hZ, arr_size, arr_size])
    have q3 := Lib.hid (show F.all (·.oneCell') = true by rw [hF]; exact arr_one 29 _)
    have HB := Lib.hid lengthBases_any
    rw [← hF] at HB
    have HFF := Lib.hid hF
    have HS := Lib.hid (fun (g cap : Nat) (w : World) (h : Blk w g 225 F) => last29 n g cap (by rw [← hF]; exact h))
    have HL := Lib.hid (lengthBits_any hk)
    have HK : Hid (F[lS n]? = some (.int .i64 (lB (lS n)))) := Lib.hid (by rw [hF, arr_get _ (by omega)])
    clear hF hZ hsz
    generalize lS n = k at *
    generalize lb k = q at *
    generalize lB k = x at *
    go_enter Tryz.func143, Tryz.ntmps143
    go_wp2_with fail
    refine (HB.out _).mono ?_
    rintro e w1 ⟨rfl, b1⟩
    go_wp2_with (refine wpList_store_row rfl 225 _ _ rfl w1.heap.size F rfl rfl _ _ (Blk.fresh w1 225 Z) q1.out q2.out q3.out ?_; rw [World.setRow_alloc_new])
    have HF2 := Lib.hid (Blk.fresh w1 225 F)
    have B2 := Lib.hid (grows b1 (below_alloc w1 (.cells F 225)))
    generalize w1.alloc (.cells F 225) = w2 at *
    generalize w1.heap.size = g at *
    clear b1 hz
    refine (HS.out _ _ _ HF2.out).mono ?_
    rintro e w3 ⟨rfl, rfl⟩
    have hc : w2.cell? ⟨g, k, none⟩ = some (.int .i64 x) := by rw [HF2.out.cell]; exact HK.out
    have hk' : ((k : Int) < 29) := by omega
    go_wp2
    go_region_held3 (fun w' => w'.cell? ⟨g, k, none⟩ = some (.int .i64 x) ∧ Below w.heap.size w w')
      (first | exact ⟨hc, below_drew B2.out⟩ | assumption)
      (first | (go_at_call 172; refine (HL.out _).mono ?_; rintro e w' ⟨rfl, rfl⟩))
    go_wp2
    refine bodyPost_ret (results_tmp4 rfl _ _ _) rfl ?_
    exact ⟨ret4 (by rw [IntWalk.i64_in _ (by omega)]; omega) (by rw [IntWalk.i64_in _ (by omega)]; omega), (show _ ∧ Below w.heap.size w _ by assumption).2⟩
set_option maxRecDepth 100000 in
theorem OfDist_any {z : Int} (h0 : -9223372036854775808 ≤ z) (h1 : z ≤ 9223372036854775807) (w : World) :
    Calls Tryz.prog 144 #[.int .i64 z] w fun e w' => e = .returned (ofD z) ∧ Below w.heap.size w w' := by
  rcases (show z < 1 ∨ 32768 < z ∨ (1 ≤ z ∧ z ≤ 32768) by omega) with h | h | h
  · rw [ofD_out (.inl h)]
    go_enter Tryz.func144, Tryz.ntmps144
    go_wp2
    refine bodyPost_ret (results_tmp4 rfl _ _ _) rfl ?_
    exact ⟨rfl, Below.refl _ _⟩
  · rw [ofD_out (.inr h)]
    have h' : ¬ z < 1 := by omega
    go_enter Tryz.func144, Tryz.ntmps144
    go_wp2
    refine bodyPost_ret (results_tmp4 rfl _ _ _) rfl ?_
    exact ⟨rfl, Below.refl _ _⟩
  · obtain ⟨n, rfl⟩ : ∃ n : Nat, z = (n : Int) := ⟨z.toNat, by omega⟩
    have hn3 : 1 ≤ n := by omega
    have hn8 : n ≤ 32768 := by omega
    rw [ofD_in hn3 hn8]
    have hk := dS_le n
    have hlo := dS_lo hn3
    obtain ⟨F, hF⟩ : ∃ F, F = arr 30 (fun i => (dB i : Int)) := ⟨_, rfl⟩
    obtain ⟨Z, hZ⟩ : ∃ Z, Z = arr 30 (fun _ => (0 : Int)) := ⟨_, rfl⟩
    obtain ⟨hz, hsz⟩ := zero_of_info infoD
    rw [arr_zero, ← hZ] at hz
    have q1 := Lib.hid (show (Tryz.prog.info? 228).map (·.size) = some F.size by rw [hF, arr_size]; exact hsz)
    have q2 := Lib.hid (show Z.size = F.size by rw [hF, hZ, arr_size, arr_size])
    have q3 := Lib.hid (show F.all (·.oneCell') = true by rw [hF]; exact arr_one 30 _)
    have HB := Lib.hid distBases_any
    rw [← hF] at HB
    have HFF := Lib.hid hF
    have HS := Lib.hid (fun (g cap : Nat) (w : World) (h : Blk w g 228 F) => last30 n g cap (by rw [← hF]; exact h))
    have HL := Lib.hid (distBits_any (show dS n < 30 by omega))
    have HK : Hid (F[dS n]? = some (.int .i64 (dB (dS n)))) := Lib.hid (by rw [hF, arr_get _ (by omega)])
    clear hF hZ hsz
    generalize dS n = k at *
    generalize fb 2 k = q at *
    generalize dB k = x at *
    go_enter Tryz.func144, Tryz.ntmps144
    go_wp2_with fail
    refine (HB.out _).mono ?_
    rintro e w1 ⟨rfl, b1⟩
    go_wp2_with (refine wpList_store_row rfl 228 _ _ rfl w1.heap.size F rfl rfl _ _ (Blk.fresh w1 228 Z) q1.out q2.out q3.out ?_; rw [World.setRow_alloc_new])
    have HF2 := Lib.hid (Blk.fresh w1 228 F)
    have B2 := Lib.hid (grows b1 (below_alloc w1 (.cells F 228)))
    generalize w1.alloc (.cells F 228) = w2 at *
    generalize w1.heap.size = g at *
    clear b1 hz
    refine (HS.out _ _ _ HF2.out).mono ?_
    rintro e w3 ⟨rfl, rfl⟩
    have hc : w2.cell? ⟨g, k, none⟩ = some (.int .i64 x) := by rw [HF2.out.cell]; exact HK.out
    have hk' : ((k : Int) < 30) := by omega
    go_wp2
    go_region_held3 (fun w' => w'.cell? ⟨g, k, none⟩ = some (.int .i64 x) ∧ Below w.heap.size w w')
      (first | exact ⟨hc, below_drew B2.out⟩ | assumption)
      (first | (go_at_call 174; refine (HL.out _).mono ?_; rintro e w' ⟨rfl, rfl⟩))
    go_wp2
    refine bodyPost_ret (results_tmp4 rfl _ _ _) rfl ?_
    exact ⟨ret4 rfl (by rw [IntWalk.i64_in _ (by omega)]; omega), (show _ ∧ Below w.heap.size w _ by assumption).2⟩
end Go.Proofs.YtnkninjdpgpkmaaGreatDoor.Sp
