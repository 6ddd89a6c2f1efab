/-
  slices.Repeat of a list of one int, and block.equal: a new list of so many ints, all of them the same; nothing that was there has changed.
  Conditions: as each theorem says.
-/
import Derived.Test.YtnkninjdpgpkmaaGreatDoorBau
import Derived.Test.YtnkninjdpgpkmaaGreatDoorBaf
import Derived.Laws.Bits64b
import Derived.Laws.CopyOwn
import Derived.Lib.SliceRun
import Derived.StillTailTactics
namespace Go.Proofs.YtnkninjdpgpkmaaGreatDoor.Ka
open Go.RowKit Go.Proofs.YtnkninjdpgpkmaaGreatDoor.Bw Go.Proofs.YtnkninjdpgpkmaaGreatDoor.Na Go.Proofs.YtnkninjdpgpkmaaGreatDoor.Ko Go.Proofs.YtnkninjdpgpkmaaGreatDoor.Nf

theorem Mul64_one (n : Nat) (hn : n ≤ 1000000) (w : World) :
    Calls Tryz.prog 166 #[.int .u64 1, .int .u64 (n : Int)] w fun e w' => e = .returned (.tuple #[.int .u64 0, .int .u64 (n : Int)]) ∧ w = w' := by
  have e1 : bits .and .u64 1 4294967295 = 1 := by decide +kernel
  have e0 : bits .and .u64 0 4294967295 = 0 := by decide +kernel
  have e2 : bits .and .u64 (n : Int) 4294967295 = (n : Int) := by
    have h := bits_and_u64_nat n 4294967295 (by omega) (by omega)
    have e : n &&& 4294967295 = n % 4294967296 := Nat.and_two_pow_sub_one_eq_mod n 32
    rw [e, Nat.mod_eq_of_lt (by omega)] at h
    exact h
  have e3 : (n : Int) / 4294967296 = 0 := by omega
  have e4 : IntKind.u64.wrap (n : Int) = (n : Int) := by rw [IntKind.wrap_u64]; omega
  go_enter Tryz.func166, Tryz.ntmps166
  go_wp2
  go_ret2
  exact ⟨rfl, rfl⟩
theorem Mul_one (n : Nat) (hn : n ≤ 1000000) (w : World) :
    Calls Tryz.prog 137 #[.int .u64 1, .int .u64 (n : Int)] w fun e w' => e = .returned (.tuple #[.int .u64 0, .int .u64 (n : Int)]) ∧ w = w' := by
  have HM := Lib.hid (fun u => Mul64_one n hn u)
  have e4 : IntKind.u64.wrap (n : Int) = (n : Int) := by rw [IntKind.wrap_u64]; omega
  go_enter Tryz.func137, Tryz.ntmps137
  go_wp2_with (go_at_call 166; refine (HM.out _).mono ?_; rintro e w' ⟨rfl, rfl⟩)
  go_ret2
  exact ⟨rfl, rfl⟩

theorem sizeI : (Tryz.prog.info? 3).map (·.size) = some 1 := by kernel_rfl
section
variable {P : Program}
/-- A part of the row of ints is written over. -/
theorem run_copy_blk (w : World) (dT sT ty e : TypeId) (hu : P.underlying dT = some (.slice e)) (hs : (P.info? e).map (·.size) = some 1) (g off dLen dCap : Nat) (A : Addr) (sLen sCap : Nat) {n m : Nat} {f src : Nat → Int} (hb : Blk w g e (arr n f)) (hm : m = min sLen dLen)
    (hsrc : ∀ j, j < m → w.cell? (A.add j) = some (.int .i64 (src j))) (hfit : off + m ≤ n) :
    (Builtin.copy_ #[dT, sT] ty #[.slice (some ⟨g, off, none⟩) dLen dCap, .slice (some A) sLen sCap]).run P w = .ok (goInt m) (w.setRow g (arr n (fun i => if off ≤ i ∧ i < off + m then src (i - off) else f i))) := by
  have hl : (Is (upto m src)).length = m := by rw [Is_length, upto_length]
  have h := run_copy_row (P := P) w dT sT ty e g off dLen dCap A sLen sCap (arr n f) e (Is (upto m src)) hu hs hb (by rw [hl]; exact hm) (fun j v hj => by
    have hjm : j < m := by rw [← hl]; exact (List.getElem?_eq_some_iff.1 hj).1
    rw [Is_get, upto_get src hjm] at hj
    rw [hsrc j hjm]; exact hj) (by rw [hl, arr_size]; exact hfit) (Is_one _)
  rw [h, hl]
  congr 2
  apply Array.ext'
  apply List.ext_getElem?
  intro i
  have hal : (arr n f).toList.length = n := by rw [Array.length_toList, arr_size]
  rw [List.toList_toArray]
  conv => rhs; rw [Array.getElem?_toList]
  by_cases h1 : i < off
  · rw [List.append_assoc, List.getElem?_append_left (by rw [List.length_take, hal]; omega), List.getElem?_take, if_pos h1, Array.getElem?_toList, arr_get f (by omega), arr_get _ (by omega), if_neg (by omega)]
  · by_cases h2 : i < off + m
    · rw [List.append_assoc, List.getElem?_append_right (by rw [List.length_take, hal]; omega), List.length_take, hal, Nat.min_eq_left (by omega), List.getElem?_append_left (by rw [hl]; omega), Is_get, upto_get src (by omega), arr_get _ (by omega), if_pos ⟨by omega, h2⟩]; rfl
    · rw [List.getElem?_append_right (by rw [List.length_append, List.length_take, hal, hl]; omega), List.length_append, List.length_take, hal, hl, List.getElem?_drop, Nat.min_eq_left (by omega), show off + m + (i - (off + m)) = i by omega, Array.getElem?_toList]
      by_cases h3 : i < n
      · rw [arr_get f h3, arr_get _ h3, if_neg (by omega)]
      · rw [Array.getElem?_eq_none (by rw [arr_size]; omega), Array.getElem?_eq_none (by rw [arr_size]; omega)]
end

/-- A block of ints is a row of the call's own. -/
theorem ints_of_blk {w : World} {g base : Nat} {e : TypeId} {n : Nat} {f : Nat → Int} (h : Blk w g e (arr n f)) (hb : base ≤ g) (hn : n ≤ 1000000) : ints w base e (.slice (some ⟨g, 0, none⟩) n n) (upto n f) := by
  refine ⟨by rw [Is_length, Nat.mul_one], .inr ⟨g, n, arr n f, by rw [upto_length], hb, h, by rw [upto_length]; exact Nat.le_refl _, by unfold maxLen; omega, by rw [arr_size, Nat.mul_one], ?_⟩⟩
  rw [upto_length, Nat.mul_one, List.take_of_length_le (by rw [Array.length_toList, arr_size]; exact Nat.le_refl _)]
  apply List.ext_getElem?
  intro i
  by_cases h : i < n
  · rw [Array.getElem?_toList, arr_get f h, Is_get, upto_get f h]; rfl
  · rw [List.getElem?_eq_none (by rw [Array.length_toList, arr_size]; omega), List.getElem?_eq_none (by rw [Is_length, upto_length]; omega)]

theorem cut_low {A : Option Addr} {n cap x : Nat} (hx : x < cap) (hxn : x ≤ n) {g : Nat} (hA : A = some ⟨g, 0, none⟩) (u : World) : (Instr.slice 22 (.slice A n cap) (some (.int .i64 (x : Int))) none none).run Tryz.prog u = .ok (.slice (some ⟨g, x, none⟩) (n - x) (cap - x)) u := by
  subst hA
  have h1 : (0 : Int) ≤ (x : Int) := by omega
  have h2 : (x : Int) ≤ (n : Int) := by omega
  have h3 : cap ≠ x := by omega
  have e : (⟨g, 0, none⟩ : Addr).add x = ⟨g, x, none⟩ := by simp [Addr.add]; intro h; exact h.symm
  go_simp
theorem cut_high {A : Option Addr} {n cap x : Nat} (hx : x ≤ cap) (u : World) : (Instr.slice 22 (.slice A n cap) none (some (.int .i64 (x : Int))) none).run Tryz.prog u = .ok (.slice A x cap) u := by
  have h1 : (0 : Int) ≤ (x : Int) := by omega
  have h2 : (x : Int) ≤ (cap : Int) := by omega
  have e : (A.map fun y => y.add 0) = A := by cases A <;> simp [Addr.add]
  go_simp

set_option maxHeartbeats 1000000 in
set_option maxRecDepth 100000 in
theorem Repeat_one {g0 off cap : Nat} {x : Int} {n : Nat} (h1 : 1 ≤ n) (hn : n ≤ 1000000) {w : World} (HC : Hid (w.cell? ⟨g0, off, none⟩ = some (.int .i64 x) ∧ g0 < w.heap.size)) :
    Calls Tryz.prog 112 #[.slice (some ⟨g0, off, none⟩) 1 cap, .int .i64 (n : Int)] w fun e w' => e = .returned (.slice (some ⟨w.heap.size, 0, none⟩) n n) ∧ Blk w' w.heap.size 3 (arr n (fun _ => x)) ∧ Below w.heap.size w w' := by
  have HM := Lib.hid (fun u => Mul_one n hn u)
  have hmk := made n (by omega)
  have hw1 : ¬ ((n : Int) < 0) := by omega
  have hw2 : IntKind.u64.wrap (n : Int) = (n : Int) := by rw [IntKind.wrap_u64]; omega
  have hw3 : IntKind.i64.wrap (n : Int) = (n : Int) := by rw [IntKind.wrap_i64]; omega
  have hw4 : ¬ ((9223372036854775807 : Int) < (n : Int)) := by omega
  have hcp := run_copy_blk (P := Tryz.prog) (w.alloc (.cells (arr n (fun _ => 0)) 3)) 22 22 3 3 Tryz.underlying22 sizeI w.heap.size 0 n n ⟨g0, off, none⟩ 1 cap (n := n) (m := 1) (f := fun _ => 0) (src := fun _ => x) (Blk.fresh w _ _) (by omega) (fun j hj => by
    obtain rfl : j = 0 := by omega
    exact (Below.cell (below_alloc w _) (p := ⟨g0, off, none⟩) HC.out.2).trans HC.out.1) (by omega)
  obtain ⟨w1, hw1'⟩ : ∃ w1, w1 = (w.alloc (.cells (arr n (fun _ => 0)) 3)).setRow w.heap.size (arr n (fun i => if 0 ≤ i ∧ i < 0 + 1 then (fun _ => x) (i - 0) else 0)) := ⟨_, rfl⟩
  have B1 : Hid (Blk w1 w.heap.size 3 (arr n (fun i => if 0 ≤ i ∧ i < 0 + 1 then (fun _ => x) (i - 0) else 0))) := Lib.hid (by rw [hw1']; exact setRow_heap _ _ _ _ _ _ (Blk.fresh w _ _))
  have L1 : Hid (Below w.heap.size w w1) := Lib.hid (by rw [hw1']; exact Below_setRow (below_alloc w _) (Nat.le_refl _) _)
  have hcp' : (Builtin.copy_ #[22, 22] 3 #[.slice (some ⟨w.heap.size, 0, none⟩) n n, .slice (some ⟨g0, off, none⟩) 1 cap]).run Tryz.prog (w.alloc (.cells (arr n (fun _ => 0)) 3)) = .ok (goInt 1) w1 := by rw [hcp, hw1']; rfl
  clear hcp hw1'
  go_enter Tryz.func112, Tryz.ntmps112
  go_wp2_with (go_at_call 137; refine (HM.out _).mono ?_; rintro e w' ⟨rfl, rfl⟩)
  have B1' : Hid (Blk w1 w.heap.size 3 (arr n (fun i => if i < 1 then x else 0))) := by
    have := B1.out
    rw [arr_congr (g := fun i => if i < 1 then x else 0) (fun i _ => by by_cases h : i < 1 <;> simp [h])] at this
    exact Lib.hid this
  clear B1 hmk hw2 hw3 hcp'
  go_loopw [8] (fun s8 wr => ∃ k : Nat, s8 = .int .i64 (k : Int) ∧ 1 ≤ k ∧ k ≤ n ∧ Hid (Blk wr w.heap.size 3 (arr n (fun i => if i < k then x else 0))) ∧ Hid (Below w.heap.size w wr)) (fun s8 _ => n - (intOf s8).toNat)
  case atStart => exact ⟨1, rfl, by omega, h1, B1', L1⟩
  case round =>
    obtain ⟨k, rfl, hk1, hkn, HB, HL⟩ := hrel
    by_cases hEN : k < n
    · have hcut := fun u => cut_low (A := some ⟨w.heap.size, 0, none⟩) (n := n) (cap := n) (x := k) hEN (by omega) rfl u
      have hcut2 := fun u => cut_high (A := some ⟨w.heap.size, 0, none⟩) (n := n) (cap := n) (x := k) (by omega) u
      obtain ⟨r, hr⟩ : ∃ r, r = n - k := ⟨_, rfl⟩
      rw [← hr] at hcut
      obtain ⟨m, hm⟩ : ∃ m, m = min k r := ⟨_, rfl⟩
      have HM2 := Lib.hid hm
      clear hm
      have hm1 : 1 ≤ m := by have := HM2.out; omega
      have hm2 : k + m ≤ n := by have := HM2.out; omega
      have hp2 : ∀ j, j < m → wr.drew.cell? ((⟨w.heap.size, 0, none⟩ : Addr).add j) = some (.int .i64 x) := by
        intro j hj
        have := HM2.out
        have e : (⟨w.heap.size, 0, none⟩ : Addr).add j = ⟨w.heap.size, j, none⟩ := by simp [Addr.add]; intro h; exact h.symm
        rw [e]
        have h := HB.out.cell j
        rw [arr_get _ (by omega), if_pos (by omega)] at h
        exact h
      have hcp := run_copy_blk (P := Tryz.prog) wr.drew 22 22 3 3 Tryz.underlying22 sizeI w.heap.size k r r ⟨w.heap.size, 0, none⟩ k n (HB.out.draws 1) HM2.out hp2 hm2
      obtain ⟨w2, hw2⟩ : ∃ w2, w2 = wr.drew.setRow w.heap.size (arr n (fun i => if k ≤ i ∧ i < k + m then x else if i < k then x else 0)) := ⟨_, rfl⟩
      have B2 : Hid (Blk w2 w.heap.size 3 (arr n (fun i => if k ≤ i ∧ i < k + m then x else if i < k then x else 0))) := Lib.hid (by rw [hw2]; exact setRow_heap _ _ _ _ _ _ (HB.out.draws 1))
      have L2 : Hid (Below w.heap.size w w2) := Lib.hid (by rw [hw2]; exact Below_setRow (below_drew HL.out) (Nat.le_refl _) _)
      rw [← hw2] at hcp
      clear hp2 hr hw2
      go_wp2_with fail
      go_region
      have B2' : Hid (Blk w2 w.heap.size 3 (arr n (fun i => if i < k + m then x else 0))) := by
        have := B2.out
        rw [arr_congr (g := fun i => if i < k + m then x else 0) (fun i _ => by
          by_cases h1 : i < k
          · rw [if_neg (by omega), if_pos h1, if_pos (by omega)]
          · by_cases h2 : i < k + m
            · rw [if_pos ⟨by omega, h2⟩, if_pos h2]
            · rw [if_neg (by omega), if_neg h1, if_neg h2])] at this
        exact Lib.hid this
      clear hcut hcut2 B2 hcp
      go_wp2
      go_roundw
      case rel => exact ⟨k + m, by go_num, by omega, hm2, B2', L2⟩
      case measure => simp [intOf]; omega
    · go_wp2
      go_ret
      refine ⟨rfl, ?_, HL.out⟩
      have := HB.out
      rw [arr_congr (g := fun _ => x) (fun i hi => by rw [if_pos (by omega)])] at this
      exact this
end Go.Proofs.YtnkninjdpgpkmaaGreatDoor.Ka
