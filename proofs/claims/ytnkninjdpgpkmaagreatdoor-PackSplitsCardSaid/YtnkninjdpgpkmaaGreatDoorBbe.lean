/-
  The program's writer as it goes on: numbers with their bits, one behind the other.
  Conditions: as each theorem says.
-/
import Derived.Test.YtnkninjdpgpkmaaGreatDoorBaj
import Derived.Test.YtnkninjdpgpkmaaGreatDoorBaz
import Derived.Test.YtnkninjdpgpkmaaGreatDoorBbd
namespace Go.Proofs.YtnkninjdpgpkmaaGreatDoor.Kh
open Go.RowKit Go.Proofs.YtnkninjdpgpkmaaGreatDoor.Vm Go.Proofs.YtnkninjdpgpkmaaGreatDoor.Vo Go.Proofs.YtnkninjdpgpkmaaGreatDoor.Bm Go.Proofs.YtnkninjdpgpkmaaGreatDoor.Bt Go.Proofs.YtnkninjdpgpkmaaGreatDoor.Bw Go.Proofs.YtnkninjdpgpkmaaGreatDoor.Bp Go.Proofs.YtnkninjdpgpkmaaGreatDoor.Bs Go.Proofs.YtnkninjdpgpkmaaGreatDoor.Bv Go.Proofs.YtnkninjdpgpkmaaGreatDoor.Bx Go.Proofs.YtnkninjdpgpkmaaGreatDoor.Na Go.Proofs.YtnkninjdpgpkmaaGreatDoor.Nm Go.Proofs.YtnkninjdpgpkmaaGreatDoor.Ni Go.Proofs.YtnkninjdpgpkmaaGreatDoor.Ne Go.Proofs.YtnkninjdpgpkmaaGreatDoor.Nh Go.Proofs.YtnkninjdpgpkmaaGreatDoor.Pm Go.Proofs.YtnkninjdpgpkmaaGreatDoor.Pw Go.Proofs.YtnkninjdpgpkmaaGreatDoor.Pi Go.Proofs.YtnkninjdpgpkmaaGreatDoor.Km Go.Proofs.YtnkninjdpgpkmaaGreatDoor.Kw Go.Proofs.YtnkninjdpgpkmaaGreatDoor.Kc

/-- From world U on, where the writer g held u, N in z bits, it has gone on by l. -/
structure gone (base : Nat) (U : World) (g : Nat) (u : Value) (N z : Nat) (w : World) (v : Value) (l : List (Nat × Nat)) : Prop where
  t : ∃ bs, wt base w g v bs (z + bl l) ∧ num bs = N + bn l * 2 ^ z
  o : Only (own g u) U w
  a : later U u v
  b : base ≤ U.heap.size

section
variable {base : Nat} {U w w' : World} {g N z : Nat} {u v v' : Value} {l : List (Nat × Nat)} {bs : List UInt8}
theorem gone.start (h : wt base U g u bs z) (hb : base ≤ U.heap.size) : gone base U g u (num bs) z U u [] :=
  ⟨⟨bs, h, by simp [bn]⟩, Only.refl _ _, .inl rfl, hb⟩
theorem gone.below (h : gone base U g u N z w v l) (k : Below w.heap.size w w') : gone base U g u N z w' v l := by
  obtain ⟨bs, t, e⟩ := h.t
  exact ⟨⟨bs, wt_below t k, e⟩, h.o.trans (Only.of_below k), h.a, h.b⟩
theorem gone.size (h : gone base U g u N z w v l) : base ≤ w.heap.size := Nat.le_trans h.b h.o.size
/-- What was not the writer's stays. -/
theorem gone.keep (h : gone base U g u N z w v l) (o : Only (own g v) w w') : Only (own g u) U w' :=
  h.o.then o (fun i hi hlt => by
    rcases hi with hi | hi
    · exact .inl hi
    · rcases own_of (g := g) h.a i hi with h1 | h1
      · exact h1
      · omega)
theorem later_trans {U w : World} {u v v' : Value} (h : later U u v) (k : later w v v') (hs : U.heap.size ≤ w.heap.size) : later U u v' := by
  rcases k with k | ⟨i, hi, k⟩
  · rcases h with h | ⟨j, hj, h⟩
    · exact .inl (k.trans h)
    · exact .inr ⟨j, hj, k.trans h⟩
  · exact .inr ⟨i, Nat.le_trans hs hi, k⟩
theorem gone.more {y m : Nat} (h : gone base U g u N z w v l) (t : wt base w' g v' bs (z + bl l + m)) (e : num bs = N + bn l * 2 ^ z + y * 2 ^ (z + bl l)) (o : Only (own g v) w w') (a : later w v v') : gone base U g u N z w' v' (l ++ [(y, m)]) :=
  ⟨⟨bs, by rw [bl_snoc, ← Nat.add_assoc]; exact t, by rw [e, on_put]⟩, h.keep o, later_trans h.a a h.o.size, h.b⟩
theorem gone.trans {w1 : World} {v1 : Value} {l1 : List (Nat × Nat)} {N1 z1 : Nat} (h : gone base U g u N z w1 v1 l1) (k : gone base w1 g v1 N1 z1 w v l) (hN : N1 = N + bn l1 * 2 ^ z) (hz : z1 = z + bl l1) : gone base U g u N z w v (l1 ++ l) := by
  subst hN; subst hz
  obtain ⟨bs, t, e⟩ := k.t
  refine ⟨⟨bs, by rw [bl_append, ← Nat.add_assoc]; exact t, ?_⟩, h.keep k.o, later_trans h.a k.a h.o.size, h.b⟩
  have e2 : bn l * 2 ^ (z + bl l1) = 2 ^ bl l1 * bn l * 2 ^ z := by rw [Nat.pow_add, Nat.mul_comm (2 ^ z), ← Nat.mul_assoc, Nat.mul_comm (bn l)]
  rw [e, bn_append, Nat.add_mul, ← Nat.add_assoc, e2]
/-- A number is put. -/
theorem gone.put {y m : Nat} {x n : Int} (hx : x = (y : Int)) (hn : n = (m : Int)) (hy : y < 2 ^ m) (hm : m ≤ 32) (h : gone base U g u N z w v l) (hz : z + bl l ≤ 562949953421312) :
    Calls Tryz.prog 113 #[.pointer (some ⟨g, 0, none⟩), .int .i64 x, .int .i64 n] w fun e w' => e = .returned (.int .i64 0) ∧ ∃ v', gone base U g u N z w' v' (l ++ [(y, m)]) := by
  subst hx; subst hn
  obtain ⟨bs, t, e⟩ := h.t
  have hp := put_code hm hy
  refine (Put_any base (y : Int) (m : Int) t h.size hz).mono ?_
  rintro _ w' ⟨rfl, v', l', t', n', o', a'⟩
  have e1 : putZ (z + bl l) (y : Int) (m : Int) = z + bl l + m := by unfold putZ; rw [if_pos hp]; rfl
  have e2 : putN (num bs) (z + bl l) (y : Int) (m : Int) = num bs + y * 2 ^ (z + bl l) := by unfold putN; rw [if_pos hp]; rfl
  rw [e1] at t'
  rw [e2, e] at n'
  exact ⟨by rw [hp], v', h.more t' n' o' a'⟩
theorem gone.align (h : gone base U g u N z w v l) (hz : z + bl l ≤ 562949953421312) :
    Calls Tryz.prog 120 #[.pointer (some ⟨g, 0, none⟩)] w fun e w' => e = .returned (.tuple #[]) ∧ ∃ v', gone base U g u N z w' v' (l ++ [(0, padZ (z + bl l))]) := by
  obtain ⟨bs, t, e⟩ := h.t
  refine (wAlign_any base t hz).mono ?_
  rintro _ w' ⟨rfl, t', o'⟩
  have e1 : 8 * bs.length = z + bl l + padZ (z + bl l) := by rw [t.len]; unfold padZ; omega
  rw [e1] at t'
  exact ⟨rfl, v, h.more (y := 0) t' (by rw [e, Nat.zero_mul, Nat.add_zero]) o' (.inl rfl)⟩

/-- The row of the code that is written. -/
def c4' (j : Nat) : Int := (c4 j : Int)
theorem err_c4 : err 19 c4' = 0 := err_ok (bad_ok (by omega) (fun i hi => by unfold c4' c4; split <;> omega)) (by rw [L_C4 (f := c4') (fun j _ => rfl), C4_sum]; omega)
theorem wr4 {x z N : Nat} (hx : x < 16) : wrE 19 c4' (x : Int) = 0 ∧ wrZ 19 c4' (x : Int) z = z + 4 ∧ wrN 19 c4' (x : Int) N z = N + turnN x 4 * 2 ^ z := by
  have hL : L 19 c4' = C4 := L_C4 (fun j _ => rfl)
  have h4 : nth C4 x = 4 := by rw [C4_nth x (by omega)]; unfold c4; rw [if_pos hx]
  have e : wrE 19 c4' (x : Int) = 0 := by
    unfold wrE
    rw [if_neg (by rw [err_c4]; decide), if_neg (by rw [hL, Int.toNat_natCast, h4]; omega)]
  refine ⟨e, ?_, ?_⟩
  · unfold wrZ; rw [if_pos e, hL, Int.toNat_natCast, h4]
  · unfold wrN; rw [if_pos e, hL, Int.toNat_natCast, h4, C4_code x hx]
theorem gone.code {A : Option Addr} {cap x : Nat} {y : Int} (hy : y = (x : Int)) (hx : x < 16) (h : gone base U g u N z w v l) (hz : z + bl l ≤ 562949953421312) (HC : Hid (∀ u, Only (own g v) w u → row u A 19 c4')) :
    Calls Tryz.prog 141 #[.pointer (some ⟨g, 0, none⟩), .slice A 19 cap, .int .i64 y] w fun e w' => e = .returned (.int .i64 0) ∧ ∃ v', gone base U g u N z w' v' (l ++ [(turnN x 4, 4)]) := by
  subst hy
  obtain ⟨bs, t, e⟩ := h.t
  obtain ⟨e1, e2, e3⟩ := wr4 (z := z + bl l) (N := num bs) hx
  refine (Write_gen base (x : Int) (by omega) HC h.size (Lib.hid t) hz).mono ?_
  rintro _ w' ⟨rfl, v', l', t', n', o', a'⟩
  rw [e2] at t'
  rw [e3, e] at n'
  exact ⟨by rw [e1], v', h.more t' n' o' a'⟩
end

set_option maxRecDepth 100000 in
/-- block.writeSize. -/
theorem writeSize_any {base : Nat} {U w : World} {g N z : Nat} {u v : Value} {l : List (Nat × Nat)} {n : Nat} {x : Int} (hx : x = (n : Int)) (hn : n ≤ 65535) (h : gone base U g u N z w v l) (hz : z + bl l ≤ 562949953420000) :
    Calls Tryz.prog 116 #[.pointer (some ⟨g, 0, none⟩), .int .i64 x] w fun e w' => e = .returned (.tuple #[]) ∧ ∃ v', gone base U g u N z w' v' (l ++ [(0, padZ (z + bl l)), (n, 16), (65535 - n, 16)]) := by
  subst hx
  have hxor := xor16 (x := n) (by omega)
  have hp : padZ (z + bl l) ≤ 8 := by unfold padZ; omega
  have H := Lib.hid h
  clear h
  go_enter Tryz.func116, Tryz.ntmps116
  go_wp2_with fail
  refine (H.out.align (by omega)).mono ?_
  rintro e w1 ⟨rfl, v1, h1⟩
  have H1 := Lib.hid h1
  clear h1
  go_wp2_with fail
  refine (H1.out.put (y := n) (m := 16) rfl rfl (by omega) (by omega) (by rw [bl_snoc]; omega)).mono ?_
  rintro e w2 ⟨rfl, v2, h2⟩
  have H2 := Lib.hid h2
  clear h2
  go_wp2_with fail
  refine (H2.out.put (y := 65535 - n) (m := 16) rfl rfl (by omega) (by omega) (by rw [bl_snoc, bl_snoc]; omega)).mono ?_
  rintro e w3 ⟨rfl, v3, h3⟩
  have H3 := Lib.hid h3
  clear h3
  go_wp2
  go_end0
  exact ⟨rfl, v3, by simpa using H3.out⟩
end Go.Proofs.YtnkninjdpgpkmaaGreatDoor.Kh
