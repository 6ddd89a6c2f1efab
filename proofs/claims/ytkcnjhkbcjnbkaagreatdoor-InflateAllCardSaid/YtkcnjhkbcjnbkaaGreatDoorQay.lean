/-
  bitrow's writer: the loop that appends bits, called with a writer that Open made: the bits behind it; of what was there only the writer and its bytes have changed.
  bitrow's Open and the writer's methods, called with a writer that Open made: their results, the bits behind them; of what was there only the writer and its bytes have changed.
  Conditions: as each theorem says.
-/
import Derived.Test.YtkcnjhkbcjnbkaaGreatDoorQas
import Derived.Test.YtkcnjhkbcjnbkaaGreatDoorQai
import Derived.Test.YtkcnjhkbcjnbkaaGreatDoorQao
import Derived.Maps.AppendAt
import Derived.BigRegion
import Derived.Test.YtkcnjhkbcjnbkaaGreatDoorQap
namespace Go.Proofs.YtkcnjhkbcjnbkaaGreatDoor.Bv
open Go.RowKit Go.Proofs.YtkcnjhkbcjnbkaaGreatDoor.Vm Go.Proofs.YtkcnjhkbcjnbkaaGreatDoor.Vo Go.Proofs.YtkcnjhkbcjnbkaaGreatDoor.Bm Go.Proofs.YtkcnjhkbcjnbkaaGreatDoor.Bo Go.Proofs.YtkcnjhkbcjnbkaaGreatDoor.Bt Go.Proofs.YtkcnjhkbcjnbkaaGreatDoor.Bw Go.Proofs.YtkcnjhkbcjnbkaaGreatDoor.Br

/-- What such a writer may write. -/
def own (g : Nat) (v : Value) (k : Nat) : Prop := k = g ∨ v.ownBlock = some k

section
variable {w w' : World} {g : Nat} {v : Value} {z : Nat}
end

theorem info8 : (Tryz.prog.info? 5).map (fun i => (i.zero, i.size, i.bytes)) = some (some (.int .u8 0), 1, 1) := by kernel_rfl
theorem row_last {w : World} {base b cap p : Nat} {r : List UInt8} {c : UInt8} (h : w.ownsRow base 5 1 (.slice (some ⟨b, 0, none⟩) (p + 1) cap) (p + 1) (Bs (r ++ [c]))) (hp : r.length = p) :
    w.cell? ⟨b, p, none⟩ = some (.int .u8 (c.toNat : Int)) := by
  rw [h.cellAt p (by omega)]
  subst hp
  simp [Bs, B]
theorem i64_at (n : Int) (m : Nat) (h : n = (m : Int)) (hm : m ≤ 9223372036854775807) : IntKind.i64.wrap n = (m : Int) := by
  subst h
  rw [IntWalk.i64_left]
  exact wrap64_in (by omega) (by omega)

theorem row_set {w : World} {base b cap p : Nat} {r : List UInt8} {c d : UInt8} (h : w.ownsRow base 5 1 (.slice (some ⟨b, 0, none⟩) (p + 1) cap) (p + 1) (Bs (r ++ [c]))) (hp : r.length = p) :
    (w.setCell ⟨b, p, none⟩ (.int .u8 (d.toNat : Int))).ownsRow base 5 1 (.slice (some ⟨b, 0, none⟩) (p + 1) cap) (p + 1) (Bs (r ++ [d])) := by
  have h1 := h.stored p (.int .u8 (d.toNat : Int))
  have h2 := set_mid r c d []
  rw [hp] at h2
  rw [show Value.int .u8 (d.toNat : Int) = B d from rfl, h2] at h1
  exact (by simpa using h1.1 : (w.setCell ⟨b, p, none⟩ (B d)).ownsRow base 5 1 (.slice (some ⟨b, 0, none⟩) (p + 1) cap) (p + 1) (Bs (r ++ [d])))
theorem or_wrap (c d : UInt8) (y u : Nat) (hu : u < 8) (hy : y < 4294967296) (h : c.toNat ||| y * 2 ^ u % 256 = d.toNat) : bits .or .u8 (c.toNat : Int) (wrap64 ((y : Int) * 2 ^ u) % 256) = (d.toNat : Int) := by
  have h1 := shl_fits y u hu hy
  rw [wrap64_in (by omega) h1.2, ← IntKind.wrap_u8', shl_byte, u8_or_nat _ _ (UInt8.toNat_lt c) (Nat.mod_lt _ (by decide)), h]
theorem or_wrap0 (c d : UInt8) (y : Nat) (h : c.toNat ||| y * 2 ^ 0 % 256 = d.toNat) : bits .or .u8 (c.toNat : Int) ((y : Int) % 256) = (d.toNat : Int) := by
  rw [Nat.pow_zero, Nat.mul_one] at h
  rw [show (y : Int) % 256 = ((y % 256 : Nat) : Int) by omega, u8_or_nat _ _ (UInt8.toNat_lt c) (Nat.mod_lt _ (by decide)), h]

/-- Where a row lies behind an append. -/
def later (w : World) (v v' : Value) : Prop := v'.ownBlock = v.ownBlock ∨ ∃ k, w.heap.size ≤ k ∧ v'.ownBlock = some k

theorem own_of {w : World} {g : Nat} {v v' : Value} (h : later w v v') (b : Nat) (hb : v'.ownBlock = some b) : own g v b ∨ w.heap.size ≤ b := by
  rcases h with h | ⟨k, hk, h⟩
  · exact .inl (.inr (by rw [← h, hb]))
  · rw [hb] at h; injection h with h; exact .inr (by omega)

end Go.Proofs.YtkcnjhkbcjnbkaaGreatDoor.Bv
namespace Go.Proofs.YtkcnjhkbcjnbkaaGreatDoor.Bx
open Go.RowKit Go.Proofs.YtkcnjhkbcjnbkaaGreatDoor.Ba Go.Proofs.YtkcnjhkbcjnbkaaGreatDoor.Vm Go.Proofs.YtkcnjhkbcjnbkaaGreatDoor.Vo Go.Proofs.YtkcnjhkbcjnbkaaGreatDoor.Bm Go.Proofs.YtkcnjhkbcjnbkaaGreatDoor.Bo Go.Proofs.YtkcnjhkbcjnbkaaGreatDoor.Bt Go.Proofs.YtkcnjhkbcjnbkaaGreatDoor.Bw Go.Proofs.YtkcnjhkbcjnbkaaGreatDoor.Br Go.Proofs.YtkcnjhkbcjnbkaaGreatDoor.Bv

/-- What Put and Code answer. -/
def putE (x n : Int) : Int := if cnt n = true ∧ x / 2 ^ n.toNat = 0 then 0 else 1
theorem putE_cases (x n : Int) : (putE x n = 1 ∧ cnt n = false) ∨ (putE x n = 1 ∧ cnt n = true ∧ ∃ m : Nat, n = (m : Int) ∧ m ≤ 32 ∧ ¬ x / 2 ^ m = 0) ∨ (putE x n = 0 ∧ cnt n = true ∧ ∃ y m : Nat, x = (y : Int) ∧ n = (m : Int) ∧ m ≤ 32 ∧ y < 2 ^ m) := by
  by_cases hc : cnt n = true
  · have hn : 0 ≤ n ∧ n ≤ 32 := by simpa [cnt] using hc
    obtain ⟨m, rfl⟩ := Int.eq_ofNat_of_zero_le hn.1
    by_cases hx : x / 2 ^ m = 0
    · refine .inr (.inr ⟨by unfold putE; rw [if_pos ⟨hc, by simpa using hx⟩], hc, ?_⟩)
      have hp : (0 : Int) < 2 ^ m := Int.pow_pos (by omega)
      have h0 : 0 ≤ x := by
        rcases Int.lt_or_le x 0 with h | h
        · have := Int.ediv_neg_of_neg_of_pos h hp; omega
        · exact h
      obtain ⟨y, rfl⟩ := Int.eq_ofNat_of_zero_le h0
      refine ⟨y, m, rfl, rfl, by omega, ?_⟩
      have e : (y : Int) / 2 ^ m = ((y / 2 ^ m : Nat) : Int) := by simp
      exact Nat.lt_of_div_eq_zero (Nat.two_pow_pos m) (by rw [e] at hx; omega)
    · exact .inr (.inl ⟨by unfold putE; rw [if_neg (fun h => hx (by simpa using h.2))], hc, m, rfl, by omega, hx⟩)
  · exact .inl ⟨by unfold putE; rw [if_neg (fun h => hc h.1)], by simpa using hc⟩

/-- The bits behind Put and Code. -/
def putZ (z : Nat) (x n : Int) : Nat := if putE x n = 0 then z + n.toNat else z
def putN (N z : Nat) (x n : Int) : Nat := if putE x n = 0 then N + x.toNat * 2 ^ z else N
def codeN (N z : Nat) (x n : Int) : Nat := if putE x n = 0 then N + turnN x.toNat n.toNat * 2 ^ z else N

theorem row_form {w : World} {base : Nat} {v : Value} {n : Nat} {xs : List Value} (h : w.ownsRow base 5 1 v n xs) : ∃ A cap, v = .slice A n cap := by
  rcases h.2 with ⟨rfl, rfl⟩ | ⟨b, cap, _, rfl, _⟩
  · exact ⟨none, 0, rfl⟩
  · exact ⟨_, cap, rfl⟩

theorem strCells_Bs (s : ByteArray) : Lib.strCells s = Bs s.data.toList := rfl

end Go.Proofs.YtkcnjhkbcjnbkaaGreatDoor.Bx
