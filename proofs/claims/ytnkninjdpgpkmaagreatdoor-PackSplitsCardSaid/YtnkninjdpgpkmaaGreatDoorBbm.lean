/-
  Ops of the program's own, in numbers: what they do, and what it costs.
  Conditions: as each theorem says.
-/
import Derived.Test.YtnkninjdpgpkmaaGreatDoorBam
namespace Go.Proofs.YtnkninjdpgpkmaaGreatDoor.Hv
open Go.Proofs.YtnkninjdpgpkmaaGreatDoor.Bm Go.Proofs.YtnkninjdpgpkmaaGreatDoor.Nm Go.Proofs.YtnkninjdpgpkmaaGreatDoor.Gm Go.Proofs.YtnkninjdpgpkmaaGreatDoor.Ga Go.Proofs.YtnkninjdpgpkmaaGreatDoor.Gr Go.Proofs.YtnkninjdpgpkmaaGreatDoor.Gp Go.Proofs.YtnkninjdpgpkmaaGreatDoor.Hm

theorem opW_of {b : List UInt8} {o : Opx} (h : okO b o) : opW b.length o.int = 0 := by
  unfold opW
  have en : o.int.n = (o.n : Int) := rfl
  have ed : o.int.d = (o.d : Int) := rfl
  rw [en, ed]
  rcases h with h | ⟨h1, h2, h3, h4, h5⟩
  · rw [if_pos (show (o.n : Int) = 0 by omega)]
  · rw [if_neg (show ¬ (o.n : Int) = 0 by omega), if_neg (show ¬ ((o.n : Int) < 3 ∨ 258 < (o.n : Int) ∨ (o.d : Int) < 1 ∨ 32768 < (o.d : Int)) by omega), if_neg (show ¬ (b.length : Int) < (o.d : Int) by omega)]
theorem opsT_of : ∀ (os : List Opx) (b : List UInt8), okOs b os → opsT b (os.map Opx.int) = (0, b ++ opsO b os)
  | [], b, _ => by rw [opsO, List.append_nil]; rfl
  | o :: r, b, h => by
    rw [List.map_cons, opsT_cons, if_pos (opW_of h.1), int_nat, opsT_of r _ h.2, opsO, List.append_assoc]
theorem opsC_of : ∀ (os : List Opx) (b : List UInt8), okOs b os → opsC (os.map Opx.int) ≤ 2 * (opsO b os).length ∧ os.length ≤ (opsO b os).length
  | [], b, _ => ⟨by simp [opsC], by simp⟩
  | o :: r, b, h => by
    obtain ⟨h1, h2⟩ := opsC_of r _ h.2
    have h3 : opC o.int ≤ 2 * (opO b o).length ∧ 1 ≤ (opO b o).length := by
      unfold opC opO
      have en : o.int.n = (o.n : Int) := rfl
      rw [en]
      rcases h.1 with h | ⟨k1, k2, k3, k4, k5⟩
      · rw [if_pos h, if_neg (show ¬ (0 < (o.n : Int) ∧ (o.n : Int) < 300) by omega)]; simp
      · rw [if_neg (show ¬ o.n = 0 by omega), Wm.out_length]
        split <;> omega
    rw [List.map_cons, opsO, List.length_append, List.length_cons]
    simp only [opsC]
    omega
end Go.Proofs.YtnkninjdpgpkmaaGreatDoor.Hv
