/-
  block.readCode: the table of the code of lengths, or what is wrong.
  Conditions: as each theorem says.
-/
import Derived.Test.YtnkninjdpgpkmaaDoorQaz
import Derived.Test.YtnkninjdpgpkmaaDoorQal
import Derived.Test.YtnkninjdpgpkmaaDoorQbh
namespace Go.Proofs.YtnkninjdpgpkmaaDoor.Kx
open Go.RowKit Go.Proofs.YtnkninjdpgpkmaaDoor.Vm Go.Proofs.YtnkninjdpgpkmaaDoor.Vo Go.Proofs.YtnkninjdpgpkmaaDoor.Bw Go.Proofs.YtnkninjdpgpkmaaDoor.Bm Go.Proofs.YtnkninjdpgpkmaaDoor.Br Go.Proofs.YtnkninjdpgpkmaaDoor.Bs Go.Proofs.YtnkninjdpgpkmaaDoor.Na Go.Proofs.YtnkninjdpgpkmaaDoor.Nf Go.Proofs.YtnkninjdpgpkmaaDoor.Nh Go.Proofs.YtnkninjdpgpkmaaDoor.Ne Go.Proofs.YtnkninjdpgpkmaaDoor.Nm Go.Proofs.YtnkninjdpgpkmaaDoor.Pm Go.Proofs.YtnkninjdpgpkmaaDoor.Pg Go.Proofs.YtnkninjdpgpkmaaDoor.Ph Go.Proofs.YtnkninjdpgpkmaaDoor.Ko Go.Proofs.YtnkninjdpgpkmaaDoor.Ka Go.Proofs.YtnkninjdpgpkmaaDoor.Kb Go.Proofs.YtnkninjdpgpkmaaDoor.Km Go.Proofs.YtnkninjdpgpkmaaDoor.Ks Go.Proofs.YtnkninjdpgpkmaaDoor.Kc Go.Proofs.YtnkninjdpgpkmaaDoor.Kd Go.Proofs.YtnkninjdpgpkmaaDoor.Ke Go.Proofs.YtnkninjdpgpkmaaDoor.Ky

theorem _root_.Go.Proofs.YtnkninjdpgpkmaaDoor.Ky.ordM.only {S : Nat → Prop} {w w' : World} (h : ordM w) (k : Only S w w') (hne : ¬ S 0) : ordM w' := by
  refine ⟨Nat.lt_of_lt_of_le h.1 k.size, fun i hi => ?_⟩
  have hb := k.block 0 h.1 hne
  have := h.2 i hi
  unfold World.cell? at this ⊢
  simp only [hb]
  exact this
theorem _root_.Go.Proofs.YtnkninjdpgpkmaaDoor.Ky.ordM.reader {w w' : World} {g : Nat} {s : ByteArray} {a : Nat} (h : ordM w) (hr : rd w g s a) (k : Only (At g) w w') : ordM w' := by
  refine h.only k (fun e => ?_)
  obtain rfl : g = 0 := Eq.symm e
  have h0 := h.2 0 (by omega)
  have h1 : w.cell? ⟨0, 0, none⟩ = some (.pointer (some ⟨0, 0, none⟩)) := hr.c0
  rw [h0] at h1
  cases h1

end Go.Proofs.YtnkninjdpgpkmaaDoor.Kx
