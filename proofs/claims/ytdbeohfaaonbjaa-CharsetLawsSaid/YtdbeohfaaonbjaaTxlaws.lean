/-
  The walk of collimatorlaw14.CharsetLaws.
-/
import Derived.Test.YtdbeohfaaonbjaaTxlawsf
import Derived.Test.YtdbeohfaaonbjaaTxlawst
namespace Go.Proofs.Ytdbeohfaaonbjaa.charsetLaws
open Go.RowKit Go.Proofs.Ytdbeohfaaonbjaa.Bw Go.Proofs.Ytdbeohfaaonbjaa.Tm Go.Proofs.Ytdbeohfaaonbjaa.Ta Go.Proofs.Ytdbeohfaaonbjaa.Tb

theorem walk (a b : List Nat) (ci : Int) (ha : isSet a) (hb : isSet b) (w2 : (Lit.int .u8 ci).wf = true) (w : World) :
    Calls Try.prog 5 #[.agg (sv a), .agg (sv b), .int .u8 ci] w fun e w' => e = .returned (.bool true) ∧ Below w.heap.size w w' := by
  cases h : has a ci.toNat
  · exact f.walk a b ci ha hb w2 h w
  · exact t.walk a b ci ha hb w2 h w
end Go.Proofs.Ytdbeohfaaonbjaa.charsetLaws
