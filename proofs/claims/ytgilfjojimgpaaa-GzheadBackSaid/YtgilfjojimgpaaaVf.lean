/-
  vint.Fixed, called with any number and any width: its results; nothing that was there has changed.
-/
import Derived.Test.YtgilfjojimgpaaaVw
namespace Go.Proofs.Ytgilfjojimgpaaa.Vf
open Go.RowKit Go.Proofs.Ytgilfjojimgpaaa.Vm Go.Proofs.Ytgilfjojimgpaaa.Vo Go.Proofs.Ytgilfjojimgpaaa.Vw

set_option maxRecDepth 100000 in
theorem Fixed_in (n W : Nat) (w : World) (_hn : n ≤ 9223372036854775807) (hW : wid (W : Int) = true) (hW1 : 1 ≤ W) (hW8 : W ≤ 8) (hf : ((n : Int) / 2 ^ (8 * W) != 0) = false) :
    Calls Try.prog 34 #[.int .i64 n, .int .i64 W] w fun e w' => e = .returned (.tuple #[.string ⟨(le W n).toArray⟩, .int .i64 0]) ∧ Below w.heap.size w w' := by
  obtain ⟨i0, hi, hz0, hz1, hz2⟩ := info_parts info5
  obtain ⟨M, hM⟩ : ∃ M, M = madeCells (Value.int .u8 0).cells (((W : Nat) : Int).toNat * i0.size) := ⟨_, rfl⟩
  have hmk : ∀ u : World, (Instr.makeSlice 63 (.int .i64 (W : Int)) (.int .i64 (W : Int))).run Try.prog u = .ok (.slice (some ⟨u.heap.size, 0, none⟩) W W) (u.alloc (.cells M 5)) := fun u => by
    have h := run_make (P := Try.prog) u 63 5 i0 (.int .u8 0) Try.underlying63 hi hz0 .i64 .i64 (W : Int) (W : Int) (by omega) (by omega) (by rw [hz2]; omega) (by omega)
    rw [← hM] at h
    simpa using h
  have HM := Lib.hid hM
  have HZ := Lib.hid hz1
  clear hM hi hz0 hz1 hz2
  go_enter Try.func34, Try.ntmps34
  go_wp2_with (go_at_call 43; refine (isWidth_any _ _).mono ?_; rintro e w' ⟨rfl, rfl⟩)
  all_goals
    have hM0 : (w.alloc (.cells M 5)).ownsRow w.heap.size 5 1 (.slice (some ⟨w.heap.size, 0, none⟩) W W) W (Bs (le 0 n ++ List.replicate (W - 0) 0)) := own_made HM HZ
    have hB0 : Below w.heap.size w (w.alloc (.cells M 5)) := (Below.refl _ w).alloc (Nat.le_refl _) _
    go_loopw [28] (fun i wr => ∃ k : Nat, i = .int .i64 k ∧ k ≤ W ∧ wr.ownsRow w.heap.size 5 1 (.slice (some ⟨w.heap.size, 0, none⟩) W W) W (Bs (le k n ++ List.replicate (W - k) 0)) ∧ Below w.heap.size w wr)
      (fun i _ => W - (intOf i).toNat)
    case atStart => exact ⟨0, rfl, by omega, hM0, hB0⟩
    case round =>
      obtain ⟨k, rfl, hk, hown, hbel⟩ := hrel
      clear hM0 hB0
      by_cases hlt : k < W
      · obtain ⟨b, hb, HB⟩ : ∃ b : UInt8, IntKind.u8.wrap ((n : Int) / 2 ^ (8 * k)) = (b.toNat : Int) ∧ Hid (b = UInt8.ofNat (n / 256 ^ k % 256)) := ⟨_, byte_at n k, Lib.hid rfl⟩
        have hst := hown.stored k (B b)
        rw [le_set hlt HB] at hst
        have HS := Lib.hid hst.1
        have HBel := Lib.hid (hbel.setCell (p := ⟨w.heap.size, k, none⟩) (Nat.le_refl _) (B b))
        obtain ⟨v, hv⟩ := own_cell hown hlt
        have hfz := hown.frozenAt k
        clear hst hown hbel
        go_wp2
        go_roundw
        case rel => exact ⟨k + 1, by go_num, by omega, HS.out, HBel.out⟩
        case measure => simp [intOf]; omega
      · obtain rfl : k = W := by omega
        have hown' : wr.ownsRow w.heap.size 5 1 (.slice (some ⟨w.heap.size, 0, none⟩) k k) (le k n).length (Bs (le k n)) := by
          rw [le_length]
          simpa using hown
        have hcv := own_string (P := Try.prog) (dst := 9) Try.underlying63 Try.underlying5 Try.underlying9 hown'
        clear hown hown'
        go_wp2
        go_ret2
        exact ⟨ret_str_int rfl rfl, hbel⟩

/-- What Fixed answers. -/
def fixR (n W : Int) : List UInt8 × Int :=
  if wid W = false ∨ n < 0 then ([], 1) else if n.toNat / 256 ^ W.toNat = 0 then (le W.toNat n.toNat, 0) else ([], 1)

theorem wid_bounds {W : Int} (h : wid W = true) : 1 ≤ W ∧ W ≤ 8 := by
  simp only [wid, Bool.or_eq_true, beq_iff_eq] at h
  omega
theorem wid_less {W : Int} (h : wid W = true) (h8 : ¬ W < 8) : W = 8 := by
  have := wid_bounds h
  omega

theorem Fixed_any (n W : Int) (w : World) (hn : n ≤ 9223372036854775807) :
    Calls Try.prog 34 #[.int .i64 n, .int .i64 W] w fun e w' => e = .returned (.tuple #[.string ⟨(fixR n W).1.toArray⟩, .int .i64 (fixR n W).2]) ∧ Below w.heap.size w w' := by
  by_cases hW : wid W = true
  · have hb := wid_bounds hW
    obtain ⟨V, rfl⟩ := Int.eq_ofNat_of_zero_le (show 0 ≤ W by omega)
    by_cases h0 : n < 0
    · have H := Lib.hid (show fixR n V = ([], 1) by simp [fixR, h0])
      go_enter Try.func34, Try.ntmps34
      go_wp2_with (go_at_call 43; refine (isWidth_any _ _).mono ?_; rintro e w' ⟨rfl, rfl⟩)
      go_ret2
      exact ⟨ret_str_int (by rw [H.out]) (by rw [H.out]), Below.refl _ _⟩
    · obtain ⟨m, rfl⟩ := Int.eq_ofNat_of_zero_le (show 0 ≤ n by omega)
      have hq : ((m : Int) / 2 ^ (8 * V) != 0) = !decide (m / 256 ^ V = 0) := by
        rw [cast_pow256, ← Int.natCast_ediv]
        generalize m / 256 ^ V = q
        by_cases h : q = 0 <;> simp [h]
      by_cases hf : m / 256 ^ V = 0
      · have e : fixR m V = (le V m, 0) := by simp [fixR, hW, hf]
        rw [e]
        exact Fixed_in m V w (by omega) hW (by omega) (by omega) (by rw [hq]; simp [hf])
      · have H := Lib.hid (show fixR m V = ([], 1) by simp [fixR, hW, hf])
        have h8 : V < 8 := by
          apply Decidable.byContradiction
          intro h
          obtain rfl : V = 8 := by omega
          exact hf (Nat.div_eq_of_lt (by simp; omega))
        have hq' : ((m : Int) / 2 ^ (8 * V) != 0) = true := by rw [hq]; simp [hf]
        clear hq hf
        go_enter Try.func34, Try.ntmps34
        go_wp2_with (go_at_call 43; refine (isWidth_any _ _).mono ?_; rintro e w' ⟨rfl, rfl⟩)
        go_ret2
        exact ⟨ret_str_int (by rw [H.out]) (by rw [H.out]), Below.refl _ _⟩
  · have hW' : wid W = false := by simpa using hW
    have H := Lib.hid (show fixR n W = ([], 1) by simp [fixR, hW'])
    clear hW
    go_enter Try.func34, Try.ntmps34
    go_wp2_with (go_at_call 43; refine (isWidth_any _ _).mono ?_; rintro e w' ⟨rfl, rfl⟩)
    go_ret2
    exact ⟨ret_str_int (by rw [H.out]) (by rw [H.out]), Below.refl _ _⟩

end Go.Proofs.Ytgilfjojimgpaaa.Vf
