/-
  What each function of the package vint does, called with any values: its results, and that nothing that was there has changed.
  Conditions: as each theorem says.
-/
import Derived.Test.YtacklgianijbpaaRows
import Derived.Test.YtacklgianijbpaaVo
import Derived.WalkKit
import Derived.WalkSpells
import Derived.WalkLawsBesides
import Derived.Lib.Hide
namespace Go.Proofs.Ytacklgianijbpaa.Vw
open Go.RowKit Go.Proofs.Ytacklgianijbpaa.Vm Go.Proofs.Ytacklgianijbpaa.Vo

def wid (n : Int) : Bool := n == 1 || n == 2 || n == 4 || n == 8

theorem isWidth_any (n : Int) (w : World) :
    Calls Try.prog 22 #[.int .i64 n] w fun e w' => e = .returned (.bool (wid n)) ∧ w = w' := by
  go_enter Try.func22, Try.ntmps22
  go_wp2
  all_goals go_ret
  all_goals exact ⟨by simp [wid, *], rfl⟩

theorem info5 : (Try.prog.info? 5).map (fun i => (i.zero, i.size, i.bytes)) = some (some (.int .u8 0), 1, 1) := by kernel_rfl

set_option maxRecDepth 100000 in
theorem varint_any (n : Nat) (w : World) (hn : n < 9223372036854775808) :
    Calls Try.prog 21 #[.int .i64 n] w fun e w' => e = .returned (.string ⟨(put n).toArray⟩) ∧ Below w.heap.size w w' := by
  obtain ⟨i0, hi, hz0, hz1, hz2⟩ := info_parts info5
  go_enter Try.func21, Try.ntmps21
  go_wp2
  go_loopw [0, 3] (fun i v wr => ∃ (m : Nat) (l : List UInt8), i = .int .i64 m ∧ m ≤ 9223372036854775807 ∧ l.length ≤ 8 ∧ Hid (m < 128 ^ (8 - l.length + 1)) ∧ Hid (put n = l ++ put m) ∧ wr.ownsRow w.heap.size 5 1 v l.length (Bs l) ∧ Below w.heap.size w wr)
    (fun i _ _ => (intOf i).toNat)
  case atStart => exact ⟨n, [], rfl, by omega, by simp, Lib.hid (by simpa using hn), Lib.hid rfl, World.ownsRow_nil _ _ _ _, Below.refl _ _⟩
  case round =>
    obtain ⟨m, l, rfl, hm, hl, HM, HP, hown, hbel⟩ := hrel
    by_cases h128 : 128 ≤ m
    · obtain ⟨b, hb, HB⟩ : ∃ b : UInt8, bits .or .u8 ((m : Int) % 128) 128 = (b.toNat : Int) ∧ Hid (b = UInt8.ofNat (m % 128 + 128)) := ⟨_, by exact_mod_cast or128 m, Lib.hid rfl⟩
      go_wp2_with (at_builtin; refine wpList_append_own _ rfl _ _ 43 rfl w.heap.size 5 i0 (.int .u8 0) 1 1 Try.underlying43 hi hz0 hz1 hz2 rfl (by decide) _ _ _ rfl (hown.alloc _) ⟨wr.heap.size, 0, none⟩ 1 1 [B b] rfl rfl (cell_one_new _ _ _) ?c2 ?c3 ?c4 ?c5 ?_)
      case c2 => intro u hu; simp at hu; subst hu; rfl
      case c3 => unfold maxLen; omega
      case c4 => omega
      case c5 => have := hbel.size; simp; omega
      intro v' w1 hown' hgrow _
      have R := own_snoc (Nat.le_refl _) hbel hown hown' hgrow
      have S := put_round hl h128 HM HP HB
      clear hown' hgrow hown hb hbel
      go_wp2
      go_roundw
      case rel => exact ⟨m / 128, l ++ [b], by go_num, by omega, S.1, S.2.1, S.2.2, R.1, R.2⟩
      case measure => simp [intOf]; omega
    · obtain ⟨b, hb, HB⟩ : ∃ b : UInt8, (m : Int) = (b.toNat : Int) ∧ Hid (b = UInt8.ofNat m) := ⟨_, (low128 m (by omega)).symm, Lib.hid rfl⟩
      have HBm := Lib.hid hb
      clear hb
      go_wp2_with (at_builtin; refine wpList_append_own _ rfl _ _ 43 rfl w.heap.size 5 i0 (.int .u8 0) 1 1 Try.underlying43 hi hz0 hz1 hz2 rfl (by decide) _ _ _ rfl (hown.alloc _) ⟨wr.heap.size, 0, none⟩ 1 1 [.int .u8 (m : Int)] rfl rfl (cell_one_new _ _ _) ?d2 ?d3 ?d4 ?d5 ?_)
      case d2 => intro u hu; simp at hu; subst hu; rfl
      case d3 => unfold maxLen; omega
      case d4 => omega
      case d5 => have := hbel.size; simp; omega
      intro v' w1 hown' hgrow _
      rw [show Value.int .u8 (m : Int) = B b by rw [HBm.out]; rfl] at hown'
      have R := own_snoc (Nat.le_refl _) hbel hown hown' hgrow
      have hcv := own_string (P := Try.prog) (dst := 9) Try.underlying43 Try.underlying5 Try.underlying9 R.1
      have HR := Lib.hid R
      clear hown' hgrow hown hbel R
      go_wp2
      go_ret
      exact ⟨ret_str (by rw [HP.out, put_small (by omega), HB.out]), HR.out.2⟩

/-- Put: the results. -/
def putR (n : Int) : List UInt8 × Int := if n < 0 then ([], 1) else (put n.toNat, 0)

theorem Put_any (n : Int) (w : World) (hn : n ≤ 9223372036854775807) :
    Calls Try.prog 8 #[.int .i64 n] w fun e w' => e = .returned (.tuple #[.string ⟨(putR n).1.toArray⟩, .int .i64 (putR n).2]) ∧ Below w.heap.size w w' := by
  by_cases h : n < 0
  · have hp : putR n = ([], 1) := by simp [putR, h]
    have HP := Lib.hid hp
    clear hp
    go_enter Try.func8, Try.ntmps8
    go_wp2
    go_ret2
    exact ⟨ret_str_int (by rw [HP.out]) (by rw [HP.out]), Below.refl _ _⟩
  · obtain ⟨m, rfl⟩ := Int.eq_ofNat_of_zero_le (show 0 ≤ n by omega)
    have hp : putR m = (put m, 0) := by simp [putR, h]
    have HP := Lib.hid hp
    clear hp
    go_enter Try.func8, Try.ntmps8
    go_wp2_with (go_at_call 21; refine (varint_any _ _ (by omega)).mono ?_; rintro e w' ⟨rfl, hb⟩)
    go_ret2
    exact ⟨ret_str_int (by rw [HP.out]) (by rw [HP.out]), hb⟩

end Go.Proofs.Ytacklgianijbpaa.Vw
