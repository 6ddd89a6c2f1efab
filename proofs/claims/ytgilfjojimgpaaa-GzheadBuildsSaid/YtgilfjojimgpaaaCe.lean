/-
  A byte's table entry, as the closure computes it, as the package's Byte uses it, and as the document's own function computes it.
  Conditions: none but the ones that each theorem names.
-/
import Derived.Test.YtgilfjojimgpaaaRows
import Derived.Test.YtgilfjojimgpaaaCm
import Derived.WalkSpells
import Derived.WalkLawsBesides
import Derived.PlainAid
import Derived.Deep.LoopGhost
import Derived.Laws.BitsAllLaws
namespace Go.Proofs.Ytgilfjojimgpaaa.Ce
open Go.RowKit Go.Proofs.Ytgilfjojimgpaaa.Cm Go.PlainAid

theorem ret_u32 {a b : Int} (h : a = b) : Ending.returned (.int .u32 a) = .returned (.int .u32 b) := by rw [h]

theorem and1 (n : Nat) (hn : n < 4294967296) : bits .and .u32 (n : Int) 1 = ((n % 2 : Nat) : Int) := by
  have h := u32_and_nat n 1 hn (by omega)
  rw [nat_mask1] at h
  exact h
theorem test_odd {n : Nat} (hn : n < 4294967296) (h : n % 2 = 1) : (bits .and .u32 (n : Int) 1 == 1) = true := by rw [and1 n hn, h]; rfl
theorem test_even {n : Nat} (hn : n < 4294967296) (h : ¬ n % 2 = 1) : (bits .and .u32 (n : Int) 1 == 1) = false := by
  rw [and1 n hn, show n % 2 = 0 by omega]; rfl
theorem xor_odd {n : Nat} (hn : n < 4294967296) (h : n % 2 = 1) : bits .xor .u32 ((n : Int) / 2) 3988292384 = ((bstep n : Nat) : Int) := by
  have e := u32_xor_nat (n / 2) 3988292384 (by omega) (by omega)
  unfold bstep
  rw [h, Nat.one_mul]
  exact e
theorem even_step {n : Nat} (h : ¬ n % 2 = 1) : n / 2 = bstep n := by
  unfold bstep
  rw [show n % 2 = 0 by omega]; simp

set_option maxRecDepth 100000 in
theorem closure_any (b : Nat) (hb : b < 256) (g : Nat) (w : World) (hc : w.cell? ⟨g, 0, none⟩ = some (.int .u32 3988292384)) :
    Calls Try.prog 54 #[.int .u8 b, .pointer (some ⟨g, 0, none⟩)] w fun e w' => e = .returned (.int .u32 (entry b)) ∧ w = w' := by
  go_enter Try.func54, Try.ntmps54
  go_wp2
  go_loopw [8, 4] (fun i v wr => ∃ (k n : Nat), i = .int .i64 k ∧ v = .int .u32 n ∧ k ≤ 8 ∧ n < 4294967296 ∧ Hid (n = bsteps k b) ∧ wr = w)
    (fun i _ _ => (8 - intOf i).toNat)
  case atStart => exact ⟨0, b, rfl, rfl, by omega, by omega, Lib.hid rfl, rfl⟩
  case round =>
    obtain ⟨k, n, rfl, rfl, hk, hn, HN, rfl⟩ := hrel
    by_cases h8 : k < 8
    · have HS : Hid (bstep n = bsteps (k + 1) b) := Lib.hid (by rw [steps_snoc, HN.out])
      by_cases h2 : n % 2 = 1
      · have t1 := test_odd hn h2
        have t2 := xor_odd hn h2
        have t3 := step_lt hn
        go_wp2
        go_roundw
        case rel => exact ⟨k + 1, bstep n, by go_num, rfl, by omega, t3, HS, trivial⟩
        case measure => simp [intOf]; omega
      · have t1 := test_even hn h2
        have t3 := step_lt hn
        have HE := Lib.hid (even_step h2)
        go_wp2
        go_roundw
        case rel => exact ⟨k + 1, n / 2, by go_num, by go_num, by omega, by omega, Lib.hid (HE.out.trans HS.out), trivial⟩
        case measure => simp [intOf]; omega
    · have hk8 := Lib.hid (show k = 8 by omega)
      go_wp2
      go_ret
      exact ⟨ret_u32 (by rw [HN.out, hk8.out]; rfl), rfl⟩

set_option maxRecDepth 100000 in
theorem rentry_any (b : Nat) (hb : b < 4294967296) (w : World) :
    Calls Try.prog 50 #[.int .u32 b] w fun e w' => e = .returned (.int .u32 (entry b)) ∧ w = w' := by
  go_enter Try.func50, Try.ntmps50
  go_wp2
  go_loopw [3, 0] (fun i v wr => ∃ (k n : Nat), i = .int .i64 k ∧ v = .int .u32 n ∧ k ≤ 8 ∧ n < 4294967296 ∧ Hid (n = bsteps k b) ∧ wr = w)
    (fun i _ _ => (8 - intOf i).toNat)
  case atStart => exact ⟨0, b, rfl, rfl, by omega, by omega, Lib.hid rfl, rfl⟩
  case round =>
    obtain ⟨k, n, rfl, rfl, hk, hn, HN, rfl⟩ := hrel
    by_cases h8 : k < 8
    · have HS : Hid (bstep n = bsteps (k + 1) b) := Lib.hid (by rw [steps_snoc, HN.out])
      by_cases h2 : n % 2 = 1
      · have t1 : ((n : Int) % 2 == 1) = true := by simp; omega
        have t2 := xor_odd hn h2
        have t3 := step_lt hn
        go_wp2
        go_roundw
        case rel => exact ⟨k + 1, bstep n, by go_num, rfl, by omega, t3, HS, trivial⟩
        case measure => simp [intOf]; omega
      · have t1 : ((n : Int) % 2 == 1) = false := by simp; omega
        have HE := Lib.hid (even_step h2)
        go_wp2
        go_roundw
        case rel => exact ⟨k + 1, n / 2, by go_num, by go_num, by omega, by omega, Lib.hid (HE.out.trans HS.out), trivial⟩
        case measure => simp [intOf]; omega
    · have hk8 := Lib.hid (show k = 8 by omega)
      go_wp2
      go_ret
      exact ⟨ret_u32 (by rw [HN.out, hk8.out]; rfl), rfl⟩

/-- The exclusive ors of a state's round, as the program says them. -/
theorem mix8 (c b : Nat) (hb : b < 256) : bits .xor .u8 ((c : Int) % 256) (b : Int) = ((c % 256 ^^^ b : Nat) : Int) := u8_xor_nat (c % 256) b (by omega) hb
theorem mix32 (c b : Nat) (hb : b < 256) : bits .xor .u32 ((c : Int) % 256) (b : Int) = ((c % 256 ^^^ b : Nat) : Int) := u32_xor_nat (c % 256) b (by omega) (by omega)
theorem mixE (c b : Nat) (hc : c < 4294967296) (hb : b < 256) : bits .xor .u32 ((entry (c % 256 ^^^ b) : Nat) : Int) ((c : Int) / 256) = ((byteN c b : Nat) : Int) :=
  u32_xor_nat (entry (c % 256 ^^^ b)) (c / 256) (entry_lt (by have := mix_lt (c := c) hb; omega)) (by omega)

set_option maxRecDepth 100000 in
theorem rByte_any (c b : Nat) (hc : c < 4294967296) (hb : b < 256) (w : World) :
    Calls Try.prog 45 #[.int .u32 c, .int .u8 b] w fun e w' => e = .returned (.int .u32 (byteN c b)) ∧ w = w' := by
  have m1 := mix32 c b hb
  have m2 := mixE c b hc hb
  have m3 := mix_lt (c := c) hb
  go_enter Try.func45, Try.ntmps45
  go_wp2_with fail
  refine (rentry_any (c % 256 ^^^ b) (by omega) _).mono ?_
  rintro e w' ⟨rfl, rfl⟩
  go_wp2
  go_ret
  exact ⟨rfl, rfl⟩

/-- What the maker of the closures hands back. -/
theorem entryBy_any (w : World) :
    Calls Try.prog 53 #[.int .u32 3988292384] w fun e w' => e = .returned (.func (.func 54) #[] #[.pointer (some ⟨w.heap.size, 0, none⟩)]) ∧ w' = w.alloc (.cells #[.int .u32 3988292384] 41) := by
  have hmf : ∀ (fn : Fn) (first cap : Array Value) (w : World), (Instr.makeFunc fn first cap).run Try.prog w = .ok (.func fn first cap) w := fun _ _ _ _ => rfl
  go_enter Try.func53, Try.ntmps53
  go_wp2
  go_ret
  exact ⟨rfl, rfl⟩

theorem cell_box (w : World) (v : Value) (t : TypeId) : (w.alloc (.cells #[v] t)).cell? ⟨w.heap.size, 0, none⟩ = some v := by
  rw [cell_of_row _ _ _ _ _ _ (heap_alloc_new w _)]; rfl

end Go.Proofs.Ytgilfjojimgpaaa.Ce
