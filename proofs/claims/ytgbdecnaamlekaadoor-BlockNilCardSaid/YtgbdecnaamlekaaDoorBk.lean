/-
  The calls with fixed values that stand at the end of each law of layer 4: they answer as they must.
-/
import Derived.Test.YtgbdecnaamlekaaDoorBs
import Derived.Test.YtgbdecnaamlekaaDoorBx
namespace Go.Proofs.YtgbdecnaamlekaaDoor.Bk
open Go.RowKit Go.Proofs.YtgbdecnaamlekaaDoor.Vm Go.Proofs.YtgbdecnaamlekaaDoor.Vo Go.Proofs.YtgbdecnaamlekaaDoor.Bm Go.Proofs.YtgbdecnaamlekaaDoor.Bo Go.Proofs.YtgbdecnaamlekaaDoor.Bt Go.Proofs.YtgbdecnaamlekaaDoor.Bw Go.Proofs.YtgbdecnaamlekaaDoor.Br Go.Proofs.YtgbdecnaamlekaaDoor.Bp Go.Proofs.YtgbdecnaamlekaaDoor.Bs Go.Proofs.YtgbdecnaamlekaaDoor.Bv Go.Proofs.YtgbdecnaamlekaaDoor.Bx

theorem wt_only {S : Nat → Prop} {base : Nat} {w w' : World} {g : Nat} {v : Value} {l : List UInt8} {z : Nat} (h : wt base w g v l z) (k : Only S w w') (hg : ¬ S g) (hv : ∀ i, v.ownBlock = some i → ¬ S i) : wt base w' g v l z :=
  ⟨h.b.only k hg, own_only h.o k hv, h.lt, h.len⟩

/-- The fixed text. -/
def tx : ByteArray := ⟨#[5, 128]⟩
theorem k1 : bitsV tx 0 3 = 5 ∧ chk tx 0 3 = 0 ∧ moved tx 0 3 = 3 := by decide +kernel
theorem k2 : bitsV tx 3 5 = 0 ∧ chk tx 3 5 = 0 ∧ moved tx 3 5 = 8 := by decide +kernel
theorem k3 : bitsV tx 8 8 = 128 ∧ chk tx 8 8 = 0 ∧ moved tx 8 8 = 16 := by decide +kernel
theorem k4 : bitsV tx 16 1 = 0 ∧ chk tx 16 1 = 2 ∧ moved tx 16 1 = 16 := by decide +kernel
theorem k5 : putE 1 1 = 0 ∧ putZ 0 1 1 = 1 ∧ putN 0 0 1 1 = 1 := by decide +kernel
theorem k6 : putE 3 3 = 0 ∧ putZ 1 3 3 = 4 ∧ codeN 1 1 3 3 = 13 := by decide +kernel
theorem k7 : turnR 1 3 = 4 := by decide +kernel
theorem k8 (l : List UInt8) (h1 : l.length = 1) (h2 : num l = 13) : l = [13] := num_inj _ _ (by rw [h1]; rfl) (by rw [h2]; rfl)

end Go.Proofs.YtgbdecnaamlekaaDoor.Bk
