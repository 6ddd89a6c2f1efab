/-
  The calls with fixed values that stand at the end of each law: they answer as they must.
-/
import Derived.Test.YtacklgianijbpaaVt
import Derived.Test.YtacklgianijbpaaVn
namespace Go.Proofs.Ytacklgianijbpaa.Vk
open Go.RowKit Go.Proofs.Ytacklgianijbpaa.Vm Go.Proofs.Ytacklgianijbpaa.Vo Go.Proofs.Ytacklgianijbpaa.Vw Go.Proofs.Ytacklgianijbpaa.Vb Go.Proofs.Ytacklgianijbpaa.Vg Go.Proofs.Ytacklgianijbpaa.Vf Go.Proofs.Ytacklgianijbpaa.Vn Go.Proofs.Ytacklgianijbpaa.Vt Go.PlainAid

theorem grows {a b c : World} (h : Below a.heap.size a b) (k : Below b.heap.size b c) : Below a.heap.size a c := h.trans (k.mono h.size)

theorem put300 : put 300 = [172, 2] := by
  rw [put_great (by omega), put_small (by omega)]
  decide
theorem k1 : putR 300 = ([172, 2], 0) := by
  unfold putR
  rw [if_neg (by decide), show (300 : Int).toNat = 300 from rfl, put300]
theorem k2 : getR ⟨#[120, 172, 2, 121]⟩ 1 = (300, 3, 0) := by decide +kernel
theorem k3 : getR ⟨#[172, 0]⟩ 0 = (0, 0, 4) := by decide +kernel
theorem k4 : getR ⟨#[172]⟩ 0 = (0, 0, 2) := by decide +kernel
theorem k5 : fixR 258 2 = ([2, 1], 0) := by decide +kernel
theorem k6 : numR ⟨#[2, 1]⟩ 0 2 = (258, 0) := by decide +kernel
theorem k7 : textR ⟨#[97, 98]⟩ = [2, 97, 98] := by
  unfold textR
  rw [show (⟨#[97, 98]⟩ : ByteArray).size = 2 from rfl, put_small (by omega)]
  decide
theorem k8 : nextR ((⟨#[2, 97, 98]⟩ : ByteArray) ++ ⟨#[99]⟩) 0 = ([97, 98], 3, 0) := by decide +kernel

set_option maxRecDepth 100000 in
theorem known_any (w : World) : Calls Try.prog 12 #[] w fun e w' => e = .returned (.bool true) ∧ Below w.heap.size w w' := by
  go_enter Try.func12, Try.ntmps12
  go_wp2_with fail
  refine (Put_any _ _ (by omega)).mono ?_
  rintro e w1 ⟨rfl, b1⟩
  rw [k1]
  go_wp2_with fail
  refine (Get_any _ _ _ (by decide) (by omega)).mono ?_
  rintro e w' ⟨rfl, rfl⟩
  rw [k2]
  go_wp2_with fail
  refine (Get_any _ _ _ (by decide) (by omega)).mono ?_
  rintro e w' ⟨rfl, rfl⟩
  rw [k3]
  go_wp2_with fail
  refine (Get_any _ _ _ (by decide) (by omega)).mono ?_
  rintro e w' ⟨rfl, rfl⟩
  rw [k4]
  go_wp2_with fail
  refine (Fixed_any _ _ _ (by omega)).mono ?_
  rintro e w2 ⟨rfl, b2⟩
  rw [k5]
  go_wp2_with fail
  refine (Number_any _ _ _ _ (by decide) (by omega)).mono ?_
  rintro e w' ⟨rfl, rfl⟩
  rw [k6]
  go_wp2_with fail
  refine (Text_any _ _ (by decide)).mono ?_
  rintro e w3 ⟨rfl, b3⟩
  rw [k7]
  go_wp2_with fail
  refine (Next_any _ _ _ (by decide) (by omega)).mono ?_
  rintro e w4 ⟨rfl, b4⟩
  rw [k8]
  go_wp2
  go_ret
  exact ⟨rfl, grows (grows (grows b1 b2) b3) b4⟩

end Go.Proofs.Ytacklgianijbpaa.Vk
