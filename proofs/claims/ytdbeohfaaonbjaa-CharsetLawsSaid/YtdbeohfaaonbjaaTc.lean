/-
  Sets of bytes in memory: OnesCount64, Count, Bytes.
  Conditions: as each theorem says.
-/
import Derived.Test.YtdbeohfaaonbjaaTb
import Derived.Laws.Bits128
namespace Go.Proofs.Ytdbeohfaaonbjaa.Tc
open Go.RowKit Go.Proofs.Ytdbeohfaaonbjaa.Vm Go.Proofs.Ytdbeohfaaonbjaa.Vo Go.Proofs.Ytdbeohfaaonbjaa.Bw Go.Proofs.Ytdbeohfaaonbjaa.Na Go.Proofs.Ytdbeohfaaonbjaa.Tm Go.Proofs.Ytdbeohfaaonbjaa.Ta Go.Proofs.Ytdbeohfaaonbjaa.Tb

theorem and_sum (x d m : Nat) (hx : x < 18446744073709551616) (hm : 2 * m < 18446744073709551616) :
    IntKind.u64.wrap (bits .and .u64 ((x : Int) / d) (m : Int) + bits .and .u64 (x : Int) (m : Int)) = (((x / d &&& m) + (x &&& m) : Nat) : Int) ∧ (x / d &&& m) + (x &&& m) ≤ 2 * m := by
  have e : (x : Int) / d = ((x / d : Nat) : Int) := by simp
  have h1 : x / d ≤ x := Nat.div_le_self _ _
  have h2 : x / d &&& m ≤ m := Nat.and_le_right
  have h3 : x &&& m ≤ m := Nat.and_le_right
  rw [e, u64_and_nat _ _ (by omega) (by omega), u64_and_nat _ _ hx (by omega), IntKind.wrap_u64]
  generalize x / d &&& m = p at *
  generalize x &&& m = q at *
  exact ⟨by omega, by omega⟩
theorem shr_sum (x d : Nat) (h : x + x / d < 18446744073709551616) : IntKind.u64.wrap ((x : Int) + (x : Int) / d) = ((x + x / d : Nat) : Int) := by
  have e : (x : Int) / d = ((x / d : Nat) : Int) := by simp
  rw [e, IntKind.wrap_u64]
  generalize x / d = p at *
  omega
set_option maxRecDepth 100000 in
theorem Ones_any {x : Nat} (hx : x < 18446744073709551616) (w : World) :
    Calls Try.prog 27 #[.int .u64 x] w fun e w' => e = .returned (.int .i64 (pop 64 x : Nat)) ∧ w = w' := by
  obtain ⟨x1, e1, E1, l1⟩ : ∃ x1 : Nat, IntKind.u64.wrap (bits .and .u64 ((x : Int) / 2) 6148914691236517205 + bits .and .u64 (x : Int) 6148914691236517205) = (x1 : Int) ∧ Hid (x1 = (x / 2 &&& 6148914691236517205) + (x &&& 6148914691236517205)) ∧ x1 ≤ 2 * 6148914691236517205 :=
    ⟨_, (and_sum x 2 6148914691236517205 hx (by omega)).1, Lib.hid rfl, (and_sum x 2 6148914691236517205 hx (by omega)).2⟩
  obtain ⟨x2, e2, E2, l2⟩ : ∃ x2 : Nat, IntKind.u64.wrap (bits .and .u64 ((x1 : Int) / 4) 3689348814741910323 + bits .and .u64 (x1 : Int) 3689348814741910323) = (x2 : Int) ∧ Hid (x2 = (x1 / 4 &&& 3689348814741910323) + (x1 &&& 3689348814741910323)) ∧ x2 ≤ 2 * 3689348814741910323 :=
    ⟨_, (and_sum x1 4 3689348814741910323 (by omega) (by omega)).1, Lib.hid rfl, (and_sum x1 4 3689348814741910323 (by omega) (by omega)).2⟩
  obtain ⟨x3, e3, E3⟩ : ∃ x3 : Nat, bits .and .u64 ((x2 : Int) / 16 + (x2 : Int)) 1085102592571150095 = (x3 : Int) ∧ Hid (x3 = (x2 / 16 + x2) &&& 1085102592571150095) := by
    refine ⟨_, ?_, Lib.hid rfl⟩
    have h' : (x2 : Int) / 16 + (x2 : Int) = ((x2 / 16 + x2 : Nat) : Int) := by omega
    rw [h']
    exact u64_and_nat (x2 / 16 + x2) 1085102592571150095 (by omega) (by omega)
  obtain ⟨x4, H4⟩ : ∃ x4, x4 = x3 + x3 / 256 := ⟨_, rfl⟩
  obtain ⟨x5, H5⟩ : ∃ x5, x5 = x4 + x4 / 65536 := ⟨_, rfl⟩
  obtain ⟨x6, H6⟩ : ∃ x6, x6 = x5 + x5 / 4294967296 := ⟨_, rfl⟩
  obtain ⟨hp, l4, l5, l6⟩ := net_is E1.out E2.out E3.out H4 H5 H6
  have e4 : IntKind.u64.wrap ((x3 : Int) + (x3 : Int) / 256) = (x4 : Int) := by rw [H4]; exact shr_sum x3 256 (by omega)
  have e5 : IntKind.u64.wrap ((x4 : Int) + (x4 : Int) / 65536) = (x5 : Int) := by rw [H5]; exact shr_sum x4 65536 (by omega)
  have e6 : IntKind.u64.wrap ((x5 : Int) + (x5 : Int) / 4294967296) = (x6 : Int) := by rw [H6]; exact shr_sum x5 4294967296 (by omega)
  have e7 := i64_and127 (x6 : Int)
  have HP := Lib.hid hp
  clear hp H4 H5 H6 hx
  go_enter Try.func27, Try.ntmps27
  go_wp2
  go_ret
  exact ⟨ret_i64 (by rw [← HP.out]; omega), rfl⟩

set_option maxRecDepth 100000 in
theorem Count_any {a : List Nat} (ha : isSet a) (w : World) :
    Calls Try.prog 22 #[.agg (sv a)] w fun e w' => e = .returned (.int .i64 ((byt a).length : Nat)) ∧ Below w.heap.size w w' := by
  obtain ⟨N, hN⟩ : ∃ N, N = (byt a).length := ⟨_, rfl⟩
  have HL : Hid (N = cntTo a 4) := Lib.hid (by rw [hN]; exact byt_len a)
  rw [← hN]
  clear hN
  go_enter Try.func22, Try.ntmps22
  go_wp2
  go_loopw [5, 3] (fun i n wr => ∃ k : Nat, i = .int .i64 k ∧ n = .int .i64 (cntTo a k : Nat) ∧ k ≤ 4 ∧ Hid (Blk wr w.heap.size 25 (sv a)) ∧ Hid (Below w.heap.size w wr))
    (fun i _ _ => 4 - (intOf i).toNat)
  case atStart => exact ⟨0, rfl, rfl, by omega, Lib.hid (Blk.fresh w _ _), Lib.hid (below_alloc _ _)⟩
  case round =>
    obtain ⟨k, rfl, rfl, hk, HT, HB⟩ := hrel
    by_cases h8 : k < 4
    · have hc := set_cell HT.out ha h8
      have hl := word_lt ha k
      have hn1 := cntTo_step a k
      obtain ⟨m, hm⟩ : ∃ m, m = cntTo a (k + 1) := ⟨_, rfl⟩
      have HM := Lib.hid hm
      rw [← hm] at hn1
      clear hm
      have h1 : cntTo a k ≤ 256 := by have := cntTo_le a k; omega
      have h2 := pop_le 64 (a.getD k 0)
      have HO : Hid (∀ w, Calls Try.prog 27 #[.int .u64 (a.getD k 0 : Nat)] w fun e w' => e = .returned (.int .i64 (pop 64 (a.getD k 0) : Nat)) ∧ w = w') := Lib.hid fun w => Ones_any hl w
      generalize hp : pop 64 (a.getD k 0) = p at *
      generalize hx : a.getD k 0 = x at *
      generalize hn : cntTo a k = n at *
      have HN := Lib.hid hn1
      clear hx hn hp hn1
      go_wp2_with (go_at_call 27; refine (HO.out _).mono ?_; rintro e w' ⟨rfl, rfl⟩)
      go_roundw
      case rel => exact ⟨k + 1, by go_num, by rw [← HM.out, HN.out]; go_num, by omega, HT, HB⟩
      case measure => simp [intOf]; omega
    · have HK := Lib.hid (show k = 4 by omega)
      have hlt : ¬ ((k : Int) < 4) := by omega
      clear hk h8
      go_wp2
      go_ret
      exact ⟨ret_i64 (by rw [HL.out, HK.out]), HB.out⟩
end Go.Proofs.Ytdbeohfaaonbjaa.Tc
