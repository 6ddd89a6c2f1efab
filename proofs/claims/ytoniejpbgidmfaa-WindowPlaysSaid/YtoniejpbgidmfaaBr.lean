/-
  bitrow's reader: its methods that only look at it, called with a reader that New made: their results; nothing that was there has changed.
  Conditions: as each theorem says.
-/
import Derived.Test.YtoniejpbgidmfaaBt
import Derived.Test.YtoniejpbgidmfaaBw
import Derived.BigQuiet
import Derived.Deep.QuietTactic
import Derived.LaidEqlPtr
namespace Go.Proofs.Ytoniejpbgidmfaa.Br
open Go.RowKit Go.Proofs.Ytoniejpbgidmfaa.Vm Go.Proofs.Ytoniejpbgidmfaa.Bm Go.Proofs.Ytoniejpbgidmfaa.Bt Go.Proofs.Ytoniejpbgidmfaa.Bw Go.PlainAid

/-- A pointer is itself. -/
theorem run_neq_same {P : Program} (w : World) {tp te : TypeId} {j : TypeInfo} (a : Addr) (hp : P.underlying tp = some (.pointer te)) (hte : P.info? te = some j) :
    (binOp .neq tp (.pointer (some a)) (.pointer (some a))).run P w = .ok (.bool false) w := by
  have h : ∀ d : Nat, (Op.equalIn (d + 1) tp (.pointer (some a)) (.pointer (some a))).run P w = .ok true w := fun d => by
    simp [Op.equalIn, run_underlying hp, sizeOf, typeInfo, hte, run_sameAddr_same]
  have h1 : (Op.equal tp (.pointer (some a)) (.pointer (some a))).run P w = .ok true w := h 9999
  simp only [binOp]
  simp [h1]
theorem run_neq_nil {P : Program} (w : World) {tp te : TypeId} (a : Addr) (hp : P.underlying tp = some (.pointer te)) :
    (binOp .neq tp (.pointer none) (.pointer (some a))).run P w = .ok (.bool true) w := by
  have h : ∀ d : Nat, (Op.equalIn (d + 1) tp (.pointer none) (.pointer (some a))).run P w = .ok false w := fun d => by
    simp [Op.equalIn, run_underlying hp]
  have h1 : (Op.equal tp (.pointer none) (.pointer (some a))).run P w = .ok false w := h 9999
  simp only [binOp]
  simp [h1]

section
variable {w w' : World} {g : Nat} {s : ByteArray} {a : Nat}
end

/-- What check answers. -/
def chk (s : ByteArray) (a : Nat) (n : Int) : Int := if cnt n = true then (if ((8 * s.size - a : Nat) : Int) < n then 2 else 0) else 1

end Go.Proofs.Ytoniejpbgidmfaa.Br
