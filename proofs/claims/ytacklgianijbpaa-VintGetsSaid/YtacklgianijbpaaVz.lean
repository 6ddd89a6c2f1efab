/-
  The document's own answers for the package vint (the verifier's functions), called with any values: they are the same plain functions.
  Conditions: as each theorem says.
-/
import Derived.Test.YtacklgianijbpaaVk
namespace Go.Proofs.Ytacklgianijbpaa.Vz
open Go.RowKit Go.Proofs.Ytacklgianijbpaa.Vm Go.Proofs.Ytacklgianijbpaa.Vo Go.Proofs.Ytacklgianijbpaa.Vw Go.Proofs.Ytacklgianijbpaa.Vb Go.Proofs.Ytacklgianijbpaa.Vg Go.Proofs.Ytacklgianijbpaa.Vf Go.Proofs.Ytacklgianijbpaa.Vn Go.Proofs.Ytacklgianijbpaa.Vt Go.Proofs.Ytacklgianijbpaa.Vk Go.PlainAid

theorem wide_any (n : Int) (w : World) :
    Calls Try.prog 23 #[.int .i64 n] w fun e w' => e = .returned (.bool (wid n)) ∧ w = w' := by
  go_enter Try.func23, Try.ntmps23
  go_wp2
  all_goals go_ret
  all_goals exact ⟨by simp [wid, *], rfl⟩

set_option maxRecDepth 100000 in
theorem rPut_in (n : Nat) (w : World) (hn : n < 9223372036854775808) :
    Calls Try.prog 9 #[.int .i64 n] w fun e w' => e = .returned (.tuple #[.string ⟨(put n).toArray⟩, .int .i64 0]) ∧ Below w.heap.size w w' := by
  obtain ⟨i0, hi, hz0, hz1, hz2⟩ := info_parts info5
  go_enter Try.func9, Try.ntmps9
  go_wp2
  go_loopw [0, 4] (fun i v wr => ∃ (m : Nat) (l : List UInt8), i = .int .i64 m ∧ m ≤ 9223372036854775807 ∧ l.length ≤ 8 ∧ Hid (m < 128 ^ (8 - l.length + 1)) ∧ Hid (put n = l ++ put m) ∧ wr.ownsRow w.heap.size 5 1 v l.length (Bs l) ∧ Below w.heap.size w wr)
    (fun i _ _ => (intOf i).toNat)
  case atStart => exact ⟨n, [], rfl, by omega, by simp, Lib.hid (by simpa using hn), Lib.hid rfl, World.ownsRow_nil _ _ _ _, Below.refl _ _⟩
  case round =>
    obtain ⟨m, l, rfl, hm, hl, HM, HP, hown, hbel⟩ := hrel
    by_cases h128 : 128 ≤ m
    · obtain ⟨b, HB, HBm⟩ : ∃ b : UInt8, Hid (b = UInt8.ofNat (m % 128 + 128)) ∧ Hid ((m : Int) % 128 + 128 = (b.toNat : Int)) := ⟨_, Lib.hid rfl, Lib.hid (by simp; omega)⟩
      go_wp2_with (at_builtin; refine wpList_append_own _ rfl _ _ 43 rfl w.heap.size 5 i0 (.int .u8 0) 1 1 Try.underlying43 hi hz0 hz1 hz2 rfl (by decide) _ _ _ rfl (hown.alloc _) ⟨wr.heap.size, 0, none⟩ 1 1 [.int .u8 ((m : Int) % 128 + 128)] rfl rfl (cell_one_new _ _ _) ?c2 ?c3 ?c4 ?c5 ?_)
      case c2 => intro u hu; simp at hu; subst hu; rfl
      case c3 => unfold maxLen; omega
      case c4 => omega
      case c5 => have := hbel.size; simp; omega
      intro v' w1 hown' hgrow _
      rw [show Value.int .u8 ((m : Int) % 128 + 128) = B b by rw [HBm.out]; rfl] at hown'
      have R := own_snoc (Nat.le_refl _) hbel hown hown' hgrow
      have S := put_round hl h128 HM HP HB
      clear hown' hgrow hown hbel
      go_wp2
      go_roundw
      case rel => exact ⟨m / 128, l ++ [b], by go_num, by omega, S.1, S.2.1, S.2.2, R.1, R.2⟩
      case measure => simp [intOf]; omega
    · obtain ⟨b, HBm, HB⟩ : ∃ b : UInt8, Hid ((m : Int) = (b.toNat : Int)) ∧ Hid (b = UInt8.ofNat m) := ⟨_, Lib.hid (low128 m (by omega)).symm, Lib.hid rfl⟩
      go_wp2_with (at_builtin; refine wpList_append_own _ rfl _ _ 43 rfl w.heap.size 5 i0 (.int .u8 0) 1 1 Try.underlying43 hi hz0 hz1 hz2 rfl (by decide) _ _ _ rfl (hown.alloc _) ⟨wr.heap.size, 0, none⟩ 1 1 [.int .u8 (m : Int)] rfl rfl (cell_one_new _ _ _) ?d2 ?d3 ?d4 ?d5 ?_)
      case d2 => intro u hu; simp at hu; subst hu; rfl
      case d3 => unfold maxLen; omega
      case d4 => omega
      case d5 => have := hbel.size; simp; omega
      intro v' w1 hown' hgrow _
      rw [show Value.int .u8 (m : Int) = B b by rw [HBm.out]; rfl] at hown'
      have R := own_snoc (Nat.le_refl _) hbel hown hown' hgrow
      have hcv := own_string (P := Try.prog) (dst := 9) Try.underlying43 Try.underlying5 Try.underlying9 R.1
      have HR := Lib.hid R
      clear hown' hgrow hown hbel R
      go_wp2
      go_ret2
      exact ⟨ret_str_int (by rw [HP.out, put_small (by omega), HB.out]) rfl, HR.out.2⟩

theorem rPut_any (n : Int) (w : World) (hn : n ≤ 9223372036854775807) :
    Calls Try.prog 9 #[.int .i64 n] w fun e w' => e = .returned (.tuple #[.string ⟨(putR n).1.toArray⟩, .int .i64 (putR n).2]) ∧ Below w.heap.size w w' := by
  by_cases h : n < 0
  · have HP := Lib.hid (show putR n = ([], 1) by simp [putR, h])
    go_enter Try.func9, Try.ntmps9
    go_wp2
    go_ret2
    exact ⟨ret_str_int (by rw [HP.out]) (by rw [HP.out]), Below.refl _ _⟩
  · obtain ⟨m, rfl⟩ := Int.eq_ofNat_of_zero_le (show 0 ≤ n by omega)
    rw [show putR (m : Int) = (put m, 0) by simp [putR, h]]
    exact rPut_in m w (by omega)

theorem rText_any (s : ByteArray) (w : World) (hs : s.size ≤ 9223372036854775000) :
    Calls Try.prog 20 #[.string s] w fun e w' => e = .returned (.string ⟨(textR s).toArray⟩) ∧ Below w.heap.size w w' := by
  have hl := put_length9 (n := s.size) (by omega)
  go_enter Try.func20, Try.ntmps20
  go_wp2_with (go_at_call 9; refine (rPut_in _ _ (by omega)).mono ?_; rintro e w' ⟨rfl, hb⟩)
  go_ret
  exact ⟨ret_str (by apply ByteArray.ext; simp [textR]), hb⟩

end Go.Proofs.Ytacklgianijbpaa.Vz
