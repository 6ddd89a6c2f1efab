/-
  behind, called with a table that New is making: the second table of the codes that begin so.
  add, called with a table that New is making: the table with one symbol more.
  Conditions: as each theorem says.
-/
import Derived.Test.YtnkninjdpgpkmaaDoorQbf
import Derived.Test.YtnkninjdpgpkmaaDoorQbb
import Derived.Laws.MakeOwn
import Derived.Maps.AppendAt
import Derived.Deep.AppendLies
import Derived.Deep.RegionLaw
import Derived.Test.YtnkninjdpgpkmaaDoorQar
import Derived.Deep.RegionHeld3
namespace Go.Proofs.YtnkninjdpgpkmaaDoor.Pe
open Go.RowKit Go.Proofs.YtnkninjdpgpkmaaDoor.Vm Go.Proofs.YtnkninjdpgpkmaaDoor.Bm Go.Proofs.YtnkninjdpgpkmaaDoor.Bw Go.Proofs.YtnkninjdpgpkmaaDoor.Br Go.Proofs.YtnkninjdpgpkmaaDoor.Bs Go.Proofs.YtnkninjdpgpkmaaDoor.Na Go.Proofs.YtnkninjdpgpkmaaDoor.Ne Go.Proofs.YtnkninjdpgpkmaaDoor.Pt Go.Proofs.YtnkninjdpgpkmaaDoor.Pc Go.Proofs.YtnkninjdpgpkmaaDoor.Pd

/-- What behind changes. -/
def tk (g : Nat) (v : Value) (k : Nat) : Prop := k = g ∨ v.ownBlock = some k
end Go.Proofs.YtnkninjdpgpkmaaDoor.Pe
namespace Go.Proofs.YtnkninjdpgpkmaaDoor.Pf
open Go.RowKit Go.Proofs.YtnkninjdpgpkmaaDoor.Vm Go.Proofs.YtnkninjdpgpkmaaDoor.Bm Go.Proofs.YtnkninjdpgpkmaaDoor.Bt Go.Proofs.YtnkninjdpgpkmaaDoor.Bw Go.Proofs.YtnkninjdpgpkmaaDoor.Br Go.Proofs.YtnkninjdpgpkmaaDoor.Bs Go.Proofs.YtnkninjdpgpkmaaDoor.Na Go.Proofs.YtnkninjdpgpkmaaDoor.Nm Go.Proofs.YtnkninjdpgpkmaaDoor.Nw Go.Proofs.YtnkninjdpgpkmaaDoor.Ne Go.Proofs.YtnkninjdpgpkmaaDoor.Pm Go.Proofs.YtnkninjdpgpkmaaDoor.Pt Go.Proofs.YtnkninjdpgpkmaaDoor.Pc Go.Proofs.YtnkninjdpgpkmaaDoor.Pd Go.Proofs.YtnkninjdpgpkmaaDoor.Pe

theorem turn_code {l : List Nat} {k : Nat} (hx : nth l k ≤ 15) (hc : code l k < 2 ^ nth l k) : turnR (code l k : Int) (nth l k : Int) = (tc l k : Int) := by
  have h1 : code l k < 32768 := Nat.lt_of_lt_of_le hc (Nat.pow_le_pow_right (by omega) hx : 2 ^ nth l k ≤ 2 ^ 15)
  have e : ((code l k : Int) % 18446744073709551616).toNat = code l k := by omega
  unfold turnR tc
  rw [if_pos (by simp [cnt]; omega), e]
  rfl

theorem drews_below {B : Nat} {a b : World} (h : Below B a b) (n : Nat) : Below B a (b.drewN n) := ⟨h.os, h.tape, h.output, h.size, h.block⟩
end Go.Proofs.YtnkninjdpgpkmaaDoor.Pf
