/-
  block.equal, slices.Grow of no list, slices.Clone and slices.Concat of lists of ints: new lists; nothing that was there has changed.
  Conditions: as each theorem says.
-/
import Derived.Test.YtnkninjdpgpkmaaGreatDoorBaw
import Derived.Lib.AppendZerosOnto
namespace Go.Proofs.YtnkninjdpgpkmaaGreatDoor.Kb
open Go.RowKit Go.Proofs.YtnkninjdpgpkmaaGreatDoor.Bw Go.Proofs.YtnkninjdpgpkmaaGreatDoor.Na Go.Proofs.YtnkninjdpgpkmaaGreatDoor.Ko Go.Proofs.YtnkninjdpgpkmaaGreatDoor.Nf Go.Proofs.YtnkninjdpgpkmaaGreatDoor.Ka

/-- A list that a call has made: from base on, it reads as l. -/
def fresh (w : World) (base : Nat) (v : Value) (l : List Int) : Prop := ints w base 3 v l

theorem upto_const (n : Nat) (x : Int) : upto n (fun _ => x) = List.replicate n x := by
  apply List.ext_getElem?
  intro i
  by_cases h : i < n
  · rw [upto_get _ h, List.getElem?_replicate, if_pos h]
  · rw [List.getElem?_eq_none (by rw [upto_length]; omega), List.getElem?_replicate, if_neg h]

set_option maxRecDepth 100000 in
theorem equal_any (x : Int) {n : Nat} (z : Int) (hz : z = (n : Int)) (h1 : 1 ≤ n) (hn : n ≤ 1000000) (w : World) :
    Calls Tryz.prog 79 #[.int .i64 x, .int .i64 z] w fun e w' => ∃ g, e = .returned (.slice (some ⟨g, 0, none⟩) n n) ∧ Blk w' g 3 (arr n (fun _ => x)) ∧ w.heap.size ≤ g ∧ Below w.heap.size w w' := by
  subst hz
  go_enter Tryz.func79, Tryz.ntmps79
  go_wp2_with fail
  refine (Repeat_one (off := 0) h1 hn (w := w.alloc (.cells #[.int .i64 x] 3)) (Lib.hid ⟨(Blk.fresh w _ _).cell 0, by rw [size_alloc]; omega⟩)).mono ?_
  rintro e w' ⟨rfl, hb, hl⟩
  have HB := Lib.hid hb
  have HL := Lib.hid hl
  clear hb hl
  go_wp2
  go_ret
  have hs := size_alloc w (.cells #[.int .i64 x] 3)
  exact ⟨_, rfl, by rw [← hs]; exact HB.out, by omega, grows (below_alloc w _) HL.out⟩

set_option maxRecDepth 100000 in
theorem Grow_nil {n : Nat} (h1 : 1 ≤ n) (hn : n ≤ 1000000) (w : World) :
    Calls Tryz.prog 111 #[.slice none 0 0, .int .i64 (n : Int)] w fun e w' => ∃ cap, e = .returned (.slice (some ⟨w.heap.size, 0, none⟩) 0 cap) ∧ ints w' w.heap.size 3 (.slice (some ⟨w.heap.size, 0, none⟩) 0 cap) [] ∧ Below w.heap.size w w' := by
  obtain ⟨i0, hi, hz0, hz1, hz2⟩ := info_parts infoI
  have hrz := fun ty => Lib.run_append_grow_zeros (P := Tryz.prog) w 22 3 ty 3 i0 (.int .i64 0) .i64 .i64 Tryz.underlying22 Tryz.underlying3 hi hz0 none 0 0 [] (run_firstCells_none w.drew i0.size 0 0 0) n (by omega) (by omega) (by omega) (by omega) (by rw [hz2]; omega) (by
    rw [hz2]; exact growslice_fits (by omega) (by omega))
  simp only [Nat.zero_add] at hrz
  obtain ⟨G, hG⟩ : ∃ G, G = grownCap w n 0 3 := ⟨_, rfl⟩
  have hG1 : n ≤ G := by have := grownCap_ge w n 0 3; omega
  have hG2 : G ≤ 9223372036854775807 := by
    have := grownCap_le_maxLen w n 0 3 (by unfold maxLen; omega)
    unfold maxLen at this
    omega
  rw [← hG] at hrz
  obtain ⟨w1, hw1⟩ : ∃ w1, w1 = w.drew.alloc (.cells ([].toArray ++ Builtin.zeroCells (Value.int .i64 0).cells n ++ Builtin.zeroCells (Value.int .i64 0).cells (G - n)) 3) := ⟨_, rfl⟩
  have HI : Hid (ints w1 w.heap.size 3 (.slice (some ⟨w.heap.size, 0, none⟩) 0 G) [] ∧ Below w.heap.size w w1) := Lib.hid ⟨⟨rfl, .inr ⟨w.heap.size, G, _, rfl, Nat.le_refl _, by rw [hw1]; exact Blk.fresh w.drew _ _, by simp, by unfold maxLen; omega, by simp [Builtin.zeroCells, Value.cells]; omega, by simp [Is]⟩⟩, by rw [hw1]; exact (below_drew (Below.refl _ w)).alloc (Nat.le_refl _) _⟩
  rw [← hw1] at hrz
  clear hw1 hG
  have hneg : ¬ ((n : Int) < 0) := by omega
  have hpos : (0 : Int) < (n : Int) := by omega
  go_enter Tryz.func111, Tryz.ntmps111
  go_wp2_with (at_builtin; refine Lib.wpList_append_run _ rfl _ _ _ _ rfl _ _ rfl rfl _ _ (hrz _) ?_)
  go_ret
  exact ⟨G, rfl, HI.out.1, HI.out.2⟩

set_option maxRecDepth 100000 in
theorem Clone_row {A : Option Addr} {n cap : Nat} {f : Nat → Int} (h1 : 1 ≤ n) (hn : n ≤ 1000000) {w : World} (HR : Hid (row w A n f)) :
    Calls Tryz.prog 180 #[.slice A n cap] w fun e w' => ∃ v, e = .returned v ∧ ints w' w.heap.size 3 v (upto n f) ∧ Below w.heap.size w w' := by
  obtain ⟨b, off, hA, _, _⟩ := HR.out 0 (by omega)
  subst hA
  have he := fun u : World => Lib.run_eql_slice_nil (P := Tryz.prog) u 22 3 (some ⟨b, off, none⟩) n cap 0 0 Tryz.underlying22
  obtain ⟨i0, hi, hz0, hz1, hz2⟩ := info_parts infoI
  obtain ⟨w1, hw1⟩ : ∃ w1, w1 = w.alloc (.cells #[] 3) := ⟨_, rfl⟩
  have HI : Hid (ints w1 w.heap.size 3 (.slice (some ⟨w.heap.size, 0, none⟩) 0 0) []) := Lib.hid ⟨rfl, .inr ⟨w.heap.size, 0, _, rfl, Nat.le_refl _, by rw [hw1]; exact Blk.fresh w _ _, by simp, by unfold maxLen; omega, by simp, by simp [Is]⟩⟩
  have HB : Hid (Below w.heap.size w w1) := Lib.hid (by rw [hw1]; exact below_alloc w _)
  have HS : Hid (w.heap.size ≤ w1.heap.size) := Lib.hid HB.out.size
  have HR1 : Hid (row w1 (some ⟨b, off, none⟩) n f) := Lib.hid (HR.out.below HB.out)
  go_enter Tryz.func180, Tryz.ntmps180
  go_wp2_with (at_builtin; rw [← hw1]; refine wpList_append_row _ rfl _ _ 22 rfl w.heap.size 3 i0 Tryz.underlying22 hi hz0 hz1 hz2 _ [] rfl HI.out _ n cap f rfl HR1.out (by simp; omega) HS.out ?_; intro v2 w2 h2 g2 l2; have H2 := Lib.hid h2; have G2 := Lib.hid g2; clear h2 g2 l2)
  obtain ⟨A2, c2, hv2⟩ := H2.out.form
  subst hv2
  go_wp2
  go_ret
  refine ⟨_, rfl, by have := H2.out; simpa using this, ?_⟩
  exact HB.out.grown G2.out HS.out (fun k hk => by have e : some w.heap.size = some k := hk; injection e with e; omega)

/-- Lists one behind the other. -/
def cat (nn : Nat → Nat) (ff : Nat → Nat → Int) : Nat → List Int
  | 0 => []
  | i + 1 => cat nn ff i ++ upto (nn i) (ff i)
theorem cat_len (nn : Nat → Nat) (ff : Nat → Nat → Int) (i : Nat) : (cat nn ff (i + 1)).length = (cat nn ff i).length + nn i := by rw [cat, List.length_append, upto_length]
theorem cat_mono (nn : Nat → Nat) (ff : Nat → Nat → Int) {i : Nat} : ∀ {k : Nat}, i ≤ k → (cat nn ff i).length ≤ (cat nn ff k).length
  | 0, h => by obtain rfl : i = 0 := by omega
               exact Nat.le_refl _
  | k + 1, h => by
    rcases (show i ≤ k ∨ i = k + 1 by omega) with h | rfl
    · rw [cat_len]; have := cat_mono nn ff h; omega
    · exact Nat.le_refl _
/-- A list of lists. -/
def lists (w : World) (b k : Nat) (S : Nat → Option Addr) (nn cc : Nat → Nat) (ff : Nat → Nat → Int) : Prop := b < w.heap.size ∧ ∀ i, i < k → w.cell? ⟨b, i, none⟩ = some (.slice (S i) (nn i) (cc i)) ∧ row w (S i) (nn i) (ff i)
theorem lists.below {w w' : World} {b k : Nat} {S : Nat → Option Addr} {nn cc : Nat → Nat} {ff : Nat → Nat → Int} (h : lists w b k S nn cc ff) (hb : Below w.heap.size w w') : lists w' b k S nn cc ff :=
  ⟨Nat.lt_of_lt_of_le h.1 hb.size, fun i hi => ⟨(hb.cell (p := ⟨b, i, none⟩) h.1).trans (h.2 i hi).1, (h.2 i hi).2.below hb⟩⟩

set_option maxRecDepth 100000 in
theorem Concat_any {b k : Nat} {S : Nat → Option Addr} {nn cc : Nat → Nat} {ff : Nat → Nat → Int} (hk : k ≤ 1000) (h1 : 1 ≤ (cat nn ff k).length) (hn : (cat nn ff k).length ≤ 1000000) {w : World} (HC : Hid (lists w b k S nn cc ff)) :
    Calls Tryz.prog 78 #[.slice (some ⟨b, 0, none⟩) k k] w fun e w' => ∃ v, e = .returned v ∧ ints w' w.heap.size 3 v (cat nn ff k) ∧ Below w.heap.size w w' := by
  obtain ⟨N, hN⟩ : ∃ N, N = (cat nn ff k).length := ⟨_, rfl⟩
  have HN := Lib.hid hN
  rw [← hN] at h1 hn
  clear hN
  go_enter Tryz.func78, Tryz.ntmps78
  go_wp2_with fail
  go_loopw [3, 11] (fun s3 s11 wr => ∃ i : Nat, s3 = .int .i64 ((cat nn ff i).length : Int) ∧ s11 = .int .i64 (i : Int) ∧ i ≤ k ∧ w = wr) (fun _ s11 _ => k - (intOf s11).toNat)
  case atStart => exact ⟨0, rfl, rfl, by omega, rfl⟩
  case round =>
    obtain ⟨i, rfl, rfl, hi, rfl⟩ := hrel
    by_cases hik : i < k
    · obtain ⟨hc, _⟩ := HC.out.2 i hik
      obtain ⟨m, hm⟩ : ∃ m, m = (cat nn ff i).length := ⟨_, rfl⟩
      obtain ⟨m1, hm1⟩ : ∃ m1, m1 = nn i := ⟨_, rfl⟩
      have hle : m + m1 ≤ 1000000 := by
        have := cat_mono nn ff (i := i + 1) (k := k) (by omega)
        rw [cat_len, ← hm, ← hm1, ← HN.out] at this
        omega
      have HM := Lib.hid (show (cat nn ff (i + 1)).length = m + m1 by rw [cat_len, hm, hm1])
      rw [← hm]
      rw [← hm1] at hc
      clear hm hm1
      obtain ⟨Si, hS⟩ : ∃ Si, Si = S i := ⟨_, rfl⟩
      obtain ⟨ci, hci⟩ : ∃ ci, ci = cc i := ⟨_, rfl⟩
      rw [← hS, ← hci] at hc
      clear hS hci
      have hneg : ¬ ((m : Int) + (m1 : Int) < 0) := by omega
      go_wp2
      go_roundw
      case rel => exact ⟨i + 1, by rw [HM.out]; go_num, by go_num, by omega, by first | rfl | trivial⟩
      case measure => simp [intOf]; omega
    · obtain rfl : i = k := by omega
      have HG := Lib.hid (Grow_nil (n := N) h1 hn w)
      rw [← HN.out]
      go_wp2_with (go_at_call 111; refine HG.out.mono ?_; rintro e w1 ⟨cap, rfl, hI, hB⟩; have HI := Lib.hid hI; have HB := Lib.hid hB; clear hI hB)
      obtain ⟨i0, hi0, hz0, hz1, hz2⟩ := info_parts infoI
      go_loopw [6, 27] (fun s6 s27 wr => ∃ (j : Nat) (A : Option Addr) (n cap : Nat), s6 = .slice A n cap ∧ s27 = .int .i64 (j : Int) ∧ j ≤ i ∧ Hid (n = (cat nn ff j).length) ∧ Hid (ints wr w.heap.size 3 (.slice A n cap) (cat nn ff j)) ∧ Hid (Below w.heap.size w wr)) (fun _ s27 _ => i - (intOf s27).toNat)
      case atStart => exact ⟨0, _, 0, cap, rfl, rfl, by omega, Lib.hid rfl, HI, HB⟩
      case round =>
        obtain ⟨j, A, n, cap1, rfl, rfl, hj, HJ, HI2, HB2⟩ := hrel
        clear HI HB
        by_cases hji : j < i
        · have hL := HC.out.below HB2.out
          obtain ⟨hc, hr⟩ := hL.2 j hji
          have HR := Lib.hid hr
          have hle : n + nn j ≤ 1000000 := by
            have := cat_mono nn ff (i := j + 1) (k := i) (by omega)
            rw [cat_len, ← HN.out] at this
            have := HJ.out
            omega
          have HLE : Hid ((cat nn ff j).length + nn j ≤ 1000000000) := Lib.hid (by have := HJ.out; omega)
          have HS : Hid (w.heap.size ≤ wr.heap.size) := Lib.hid HB2.out.size
          obtain ⟨m1, hm1⟩ : ∃ m1, m1 = nn j := ⟨_, rfl⟩
          obtain ⟨Sj, hS⟩ : ∃ Sj, Sj = S j := ⟨_, rfl⟩
          obtain ⟨cj, hcj⟩ : ∃ cj, cj = cc j := ⟨_, rfl⟩
          have HM1 := Lib.hid hm1
          rw [← hS, ← hcj, ← hm1] at hc
          rw [← hS, ← hm1] at HR
          rw [← hm1] at HLE hle
          clear hS hcj hr hm1 hL
          go_wp2_with (at_builtin; refine wpList_append_row _ rfl _ _ 22 rfl w.heap.size 3 i0 Tryz.underlying22 hi0 hz0 hz1 hz2 _ (cat nn ff j) rfl HI2.out _ m1 cj (ff j) rfl HR.out HLE.out HS.out ?_; intro v2 w2 h2 g2 l2; have H2 := Lib.hid h2; have G2 := Lib.hid g2; clear h2 g2 l2)
          obtain ⟨A2, c2, hv2⟩ := H2.out.form
          obtain ⟨n2, hn2⟩ : ∃ n2, n2 = (cat nn ff j ++ upto m1 (ff j)).length := ⟨_, rfl⟩
          rw [← hn2] at hv2
          have HN2 := Lib.hid hn2
          clear hn2
          subst hv2
          go_wp2
          go_roundw
          case rel =>
            refine ⟨j + 1, A2, n2, c2, rfl, by go_num, by omega, Lib.hid ?_, Lib.hid ?_, Lib.hid ?_⟩
            · rw [HN2.out, cat, ← HM1.out]
            · rw [cat, ← HM1.out]; exact H2.out
            · exact HB2.out.grown G2.out HS.out (fun q hq => (HI2.out.lo q hq).1)
          case measure => simp [intOf]; omega
        · obtain rfl : j = i := by omega
          go_wp2
          go_ret
          exact ⟨_, rfl, HI2.out, HB2.out⟩
end Go.Proofs.YtnkninjdpgpkmaaGreatDoor.Kb
