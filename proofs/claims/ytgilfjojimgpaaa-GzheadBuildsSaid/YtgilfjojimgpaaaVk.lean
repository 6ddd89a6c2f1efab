/-
  The calls with fixed values that stand at the end of each law: they answer as they must.
-/
import Derived.Test.YtgilfjojimgpaaaVt
import Derived.Test.YtgilfjojimgpaaaVn
namespace Go.Proofs.Ytgilfjojimgpaaa.Vk
open Go.RowKit Go.Proofs.Ytgilfjojimgpaaa.Vm Go.Proofs.Ytgilfjojimgpaaa.Vo Go.Proofs.Ytgilfjojimgpaaa.Vw Go.Proofs.Ytgilfjojimgpaaa.Vb Go.Proofs.Ytgilfjojimgpaaa.Vg Go.Proofs.Ytgilfjojimgpaaa.Vf Go.Proofs.Ytgilfjojimgpaaa.Vn Go.Proofs.Ytgilfjojimgpaaa.Vt Go.PlainAid

theorem grows {a b c : World} (h : Below a.heap.size a b) (k : Below b.heap.size b c) : Below a.heap.size a c := h.trans (k.mono h.size)

theorem put300 : put 300 = [172, 2] := by
  rw [put_great (by omega), put_small (by omega)]
  decide
theorem k1 : putR 300 = ([172, 2], 0) := by
  unfold putR
  rw [if_neg (by decide), show (300 : Int).toNat = 300 from rfl, put300]
theorem k2 : getR ⟨#[120, 172, 2, 121]⟩ 1 = (300, 3, 0) := by decide +kernel
theorem k3 : getR ⟨#[172, 0]⟩ 0 = (0, 0, 4) := by decide +kernel
theorem k4 : getR ⟨#[172]⟩ 0 = (0, 0, 2) := by decide +kernel
theorem k5 : fixR 258 2 = ([2, 1], 0) := by decide +kernel
theorem k6 : numR ⟨#[2, 1]⟩ 0 2 = (258, 0) := by decide +kernel
theorem k7 : textR ⟨#[97, 98]⟩ = [2, 97, 98] := by
  unfold textR
  rw [show (⟨#[97, 98]⟩ : ByteArray).size = 2 from rfl, put_small (by omega)]
  decide
theorem k8 : nextR ((⟨#[2, 97, 98]⟩ : ByteArray) ++ ⟨#[99]⟩) 0 = ([97, 98], 3, 0) := by decide +kernel

end Go.Proofs.Ytgilfjojimgpaaa.Vk
