/-
  The document's own answer for Fixed (the verifier's function), called with any values: it is the same plain function.
-/
import Derived.Test.YtgilfjojimgpaaaVz
namespace Go.Proofs.Ytgilfjojimgpaaa.Vy
open Go.RowKit Go.Proofs.Ytgilfjojimgpaaa.Vm Go.Proofs.Ytgilfjojimgpaaa.Vo Go.Proofs.Ytgilfjojimgpaaa.Vw Go.Proofs.Ytgilfjojimgpaaa.Vf Go.Proofs.Ytgilfjojimgpaaa.Vz

/-- One byte more of a fixed number. -/
theorem le_round {n k m : Nat} {l : List UInt8} {b : UInt8} (HL : Hid (l = le k n)) (HM : Hid (m = n / 256 ^ k)) (HB : Hid ((m : Int) % 256 = (b.toNat : Int))) :
    Hid (l ++ [b] = le (k + 1) n) ∧ Hid (m / 256 = n / 256 ^ (k + 1)) := by
  refine ⟨Lib.hid ?_, Lib.hid ?_⟩
  · rw [le_snoc, HL.out, ← HM.out]
    have h := HB.out
    have e : m % 256 = b.toNat := by omega
    rw [e]
    simp
  · rw [HM.out, Nat.div_div_eq_div_mul, Nat.pow_succ]

theorem fixR_form {n W m : Nat} {l : List UInt8} (hW : wid (W : Int) = true) (HL : Hid (l = le W n)) (HM : Hid (m = n / 256 ^ W)) : Hid (fixR n W = if m = 0 then (l, 0) else ([], 1)) := by
  have h : ¬ (wid (W : Int) = false ∨ (n : Int) < 0) := by
    rw [hW]
    intro h
    rcases h with h | h
    · cases h
    · omega
  exact Lib.hid (by
    unfold fixR
    rw [if_neg h, HL.out, HM.out]
    rfl)

set_option maxRecDepth 100000 in
theorem rFixed_in (n W : Nat) (w : World) (hn : n ≤ 9223372036854775807) (hW : wid (W : Int) = true) (_hW1 : 1 ≤ W) (hW8 : W ≤ 8) :
    Calls Try.prog 36 #[.int .i64 n, .int .i64 W] w fun e w' => e = .returned (.tuple #[.string ⟨(fixR n W).1.toArray⟩, .int .i64 (fixR n W).2]) ∧ Below w.heap.size w w' := by
  obtain ⟨i0, hi, hz0, hz1, hz2⟩ := info_parts info5
  go_enter Try.func36, Try.ntmps36
  go_wp2_with (go_at_call 42; refine (wide_any _ _).mono ?_; rintro e w' ⟨rfl, rfl⟩)
  go_loopw [0, 6, 7] (fun x v i wr => ∃ (k m : Nat) (l : List UInt8), i = .int .i64 k ∧ k ≤ W ∧ x = .int .i64 m ∧ m ≤ 9223372036854775807 ∧ l.length ≤ k ∧ Hid (l = le k n) ∧ Hid (m = n / 256 ^ k) ∧ wr.ownsRow w.heap.size 5 1 v l.length (Bs l) ∧ Below w.heap.size w wr)
    (fun _ _ i _ => W - (intOf i).toNat)
  case atStart => exact ⟨0, n, [], rfl, by omega, rfl, hn, by simp, Lib.hid rfl, Lib.hid (by simp), World.ownsRow_nil _ _ _ _, Below.refl _ _⟩
  case round =>
    obtain ⟨k, m, l, rfl, hk, rfl, hm, hl, HL, HM, hown, hbel⟩ := hrel
    by_cases hlt : k < W
    · obtain ⟨b, HB⟩ : ∃ b : UInt8, Hid ((m : Int) % 256 = (b.toNat : Int)) := ⟨UInt8.ofNat (m % 256), Lib.hid (by simp)⟩
      have S := le_round HL HM HB
      go_wp2_with (at_builtin; refine wpList_append_own _ rfl _ _ 63 rfl w.heap.size 5 i0 (.int .u8 0) 1 1 Try.underlying63 hi hz0 hz1 hz2 rfl (by decide) _ _ _ rfl (hown.alloc _) ⟨wr.heap.size, 0, none⟩ 1 1 [.int .u8 ((m : Int) % 256)] rfl rfl (cell_one_new _ _ _) ?c2 ?c3 ?c4 ?c5 ?_)
      case c2 => intro u hu; simp at hu; subst hu; rfl
      case c3 => unfold maxLen; omega
      case c4 => omega
      case c5 => have := hbel.size; simp; omega
      intro v' w1 hown' hgrow _
      rw [show Value.int .u8 ((m : Int) % 256) = B b by rw [HB.out]; rfl] at hown'
      have R := own_snoc (Nat.le_refl _) hbel hown hown' hgrow
      clear hown' hgrow hown hbel
      go_wp2
      go_roundw
      case rel => exact ⟨k + 1, m / 256, l ++ [b], by go_num, by omega, by go_num, by omega, by simp; omega, S.1, S.2, R.1, R.2⟩
      case measure => simp [intOf]; omega
    · obtain rfl : k = W := by omega
      have hx := fixR_form hW HL HM
      have hcv := own_string (P := Try.prog) (dst := 9) Try.underlying63 Try.underlying5 Try.underlying9 hown
      by_cases h0 : 0 < m
      · clear hown hcv
        go_wp2
        go_ret2
        have e : fixR n k = ([], 1) := by rw [hx.out, if_neg (by omega)]
        exact ⟨ret_str_int (by rw [e]) (by rw [e]), hbel⟩
      · clear hown
        go_wp2
        go_ret2
        have e : fixR n k = (l, 0) := by rw [hx.out, if_pos (by omega)]
        exact ⟨ret_str_int (by rw [e]) (by rw [e]), hbel⟩

theorem rFixed_any (n W : Int) (w : World) (hn : n ≤ 9223372036854775807) :
    Calls Try.prog 36 #[.int .i64 n, .int .i64 W] w fun e w' => e = .returned (.tuple #[.string ⟨(fixR n W).1.toArray⟩, .int .i64 (fixR n W).2]) ∧ Below w.heap.size w w' := by
  by_cases hW : wid W = true
  · have hb := wid_bounds hW
    obtain ⟨V, rfl⟩ := Int.eq_ofNat_of_zero_le (show 0 ≤ W by omega)
    by_cases h0 : n < 0
    · have H := Lib.hid (show fixR n V = ([], 1) by simp [fixR, h0])
      go_enter Try.func36, Try.ntmps36
      go_wp2_with (go_at_call 42; refine (wide_any _ _).mono ?_; rintro e w' ⟨rfl, rfl⟩)
      go_ret2
      exact ⟨ret_str_int (by rw [H.out]) (by rw [H.out]), Below.refl _ _⟩
    · obtain ⟨m, rfl⟩ := Int.eq_ofNat_of_zero_le (show 0 ≤ n by omega)
      exact rFixed_in m V w (by omega) hW (by omega) (by omega)
  · have hW' : wid W = false := by simpa using hW
    have H := Lib.hid (show fixR n W = ([], 1) by simp [fixR, hW'])
    clear hW
    go_enter Try.func36, Try.ntmps36
    go_wp2_with (go_at_call 42; refine (wide_any _ _).mono ?_; rintro e w' ⟨rfl, rfl⟩)
    go_ret2
    exact ⟨ret_str_int (by rw [H.out]) (by rw [H.out]), Below.refl _ _⟩

end Go.Proofs.Ytgilfjojimgpaaa.Vy
