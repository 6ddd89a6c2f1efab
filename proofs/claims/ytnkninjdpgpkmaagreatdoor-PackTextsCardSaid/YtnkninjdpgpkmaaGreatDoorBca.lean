/-
  The statements' taken, the reference's Same of heads that are alike, the place that Count tells.
  The reference's writer as it goes on: numbers with their bits, one behind the other; the reference's fits and order.
  Conditions: as each theorem says.
-/
import Derived.Test.YtnkninjdpgpkmaaGreatDoorBbj
import Derived.Test.YtnkninjdpgpkmaaGreatDoorBbs
import Derived.Test.YtnkninjdpgpkmaaGreatDoorBbi
import Derived.Test.YtnkninjdpgpkmaaGreatDoorBby
import Derived.Test.YtnkninjdpgpkmaaGreatDoorBbz
import Derived.Test.YtnkninjdpgpkmaaGreatDoorBbc
namespace Go.Proofs.YtnkninjdpgpkmaaGreatDoor.Kn
open Go.RowKit Go.Proofs.YtnkninjdpgpkmaaGreatDoor.Vm Go.Proofs.YtnkninjdpgpkmaaGreatDoor.Vo Go.Proofs.YtnkninjdpgpkmaaGreatDoor.Bm Go.Proofs.YtnkninjdpgpkmaaGreatDoor.Bt Go.Proofs.YtnkninjdpgpkmaaGreatDoor.Bw Go.Proofs.YtnkninjdpgpkmaaGreatDoor.Bp Go.Proofs.YtnkninjdpgpkmaaGreatDoor.Bs Go.Proofs.YtnkninjdpgpkmaaGreatDoor.Bv Go.Proofs.YtnkninjdpgpkmaaGreatDoor.Bx Go.Proofs.YtnkninjdpgpkmaaGreatDoor.Na Go.Proofs.YtnkninjdpgpkmaaGreatDoor.Nf Go.Proofs.YtnkninjdpgpkmaaGreatDoor.Nm Go.Proofs.YtnkninjdpgpkmaaGreatDoor.Ni Go.Proofs.YtnkninjdpgpkmaaGreatDoor.Ne Go.Proofs.YtnkninjdpgpkmaaGreatDoor.Nh Go.Proofs.YtnkninjdpgpkmaaGreatDoor.Pm Go.Proofs.YtnkninjdpgpkmaaGreatDoor.Pw Go.Proofs.YtnkninjdpgpkmaaGreatDoor.Pi Go.Proofs.YtnkninjdpgpkmaaGreatDoor.Ko Go.Proofs.YtnkninjdpgpkmaaGreatDoor.Ka Go.Proofs.YtnkninjdpgpkmaaGreatDoor.Kb Go.Proofs.YtnkninjdpgpkmaaGreatDoor.Km Go.Proofs.YtnkninjdpgpkmaaGreatDoor.Kw Go.Proofs.YtnkninjdpgpkmaaGreatDoor.Ks Go.Proofs.YtnkninjdpgpkmaaGreatDoor.Kc Go.Proofs.YtnkninjdpgpkmaaGreatDoor.Kd Go.Proofs.YtnkninjdpgpkmaaGreatDoor.Ke Go.Proofs.YtnkninjdpgpkmaaGreatDoor.Ky Go.Proofs.YtnkninjdpgpkmaaGreatDoor.Kx Go.Proofs.YtnkninjdpgpkmaaGreatDoor.Ku Go.Proofs.YtnkninjdpgpkmaaGreatDoor.Kh Go.Proofs.YtnkninjdpgpkmaaGreatDoor.Ki Go.Proofs.YtnkninjdpgpkmaaGreatDoor.Nk

theorem sizeR : (Tryz.prog.info? 77).map (·.size) = some 5 := by kernel_rfl
/-- A head that was read can be written. -/
theorem wr_read {h : Hd} (ok : okH h) {n m : Nat} (hn : n = h.lits.length) (hm : m = h.dists.length) : wrM (h.kind : Int) (h.size : Int) n (ix h.lits) m (ix h.dists) = 0 := by
  subst hn; subst hm
  have h1 := ok.k
  have h2 := ok.s
  unfold wrM
  rw [if_neg (by omega)]
  by_cases h0 : (h.kind : Int) = 2
  · obtain ⟨a1, a2, a3, a4, _, a6⟩ := ok.l (by omega)
    rw [if_pos h0, if_neg (by omega)]
    exact a6
  · rw [if_neg h0]
theorem head_len (N M a : Nat) : (headM N M a).2.1.lits.length ≤ 288 ∧ (headM N M a).2.1.dists.length ≤ 32 := by
  have hk := peekN_lt N (a + 1) 2
  by_cases c1 : M - a < 3
  · rw [head_short c1]; exact ⟨by simp [Hd.zero], by simp [Hd.zero]⟩
  rcases (show peekN N (a + 1) 2 = 0 ∨ peekN N (a + 1) 2 = 1 ∨ peekN N (a + 1) 2 = 2 ∨ peekN N (a + 1) 2 = 3 by omega) with k | k | k | k
  · by_cases e : (stoM N M (a + 3)).1 = 0
    · rw [head_sto c1 k e]; exact ⟨by simp, by simp⟩
    · rw [head_sto_no c1 k e]; exact ⟨by simp [Hd.zero], by simp [Hd.zero]⟩
  · rw [head_fix c1 k]; exact ⟨by rw [fixL_length]; omega, by rw [fixD_length]; omega⟩
  · by_cases e : (dynM N M (a + 3)).1 = 0
    · rw [head_dyn c1 k e]
      obtain ⟨f1, f2, f3, f4, _⟩ := dyn_facts e
      exact ⟨by show (dynM N M (a + 3)).2.1.1.length ≤ 288; omega, by show (dynM N M (a + 3)).2.1.2.length ≤ 32; omega⟩
    · rw [head_dyn_no c1 k e]; exact ⟨by simp [Hd.zero], by simp [Hd.zero]⟩
  · rw [head_no c1 k]; exact ⟨by simp [Hd.zero], by simp [Hd.zero]⟩
theorem isH.parts {w : World} {b : Bool} {k z : Int} {A1 A2 : Option Addr} {n1 c1 n2 c2 : Nat} {h : Hd} (i : isH w (hv b k z (.slice A1 n1 c1) (.slice A2 n2 c2)) h) : b = h.fin ∧ k = h.kind ∧ z = h.size ∧ n1 = h.lits.length ∧ n2 = h.dists.length ∧ row w A1 n1 (ix h.lits) ∧ row w A2 n2 (ix h.dists) := by
  obtain ⟨v1, v2, ev, l1, l2⟩ := i
  injection ev with ev
  injection ev with ev
  simp only [List.cons.injEq, Value.bool.injEq, Value.int.injEq, and_true, true_and] at ev
  obtain ⟨e1, e2, e3, e4, e5⟩ := ev
  subst e4 e5
  obtain ⟨m1, r1⟩ := l1.row
  obtain ⟨m2, r2⟩ := l2.row
  exact ⟨e1, e2, e3, m1, m2, r1, r2⟩

/-- What only a new writer writes leaves what was there. -/
theorem past {w w1 x : World} {S : Nat → Prop} (b : Below w.heap.size w w1) (hS : ∀ i, S i → w.heap.size ≤ i) (o : Only S w1 x) : Below w.heap.size w x := o.below b b.size hS
end Go.Proofs.YtnkninjdpgpkmaaGreatDoor.Kn
namespace Go.Proofs.YtnkninjdpgpkmaaGreatDoor.Ma
open Go.RowKit Go.Proofs.YtnkninjdpgpkmaaGreatDoor.Vm Go.Proofs.YtnkninjdpgpkmaaGreatDoor.Vo Go.Proofs.YtnkninjdpgpkmaaGreatDoor.Bm Go.Proofs.YtnkninjdpgpkmaaGreatDoor.Bt Go.Proofs.YtnkninjdpgpkmaaGreatDoor.Bw Go.Proofs.YtnkninjdpgpkmaaGreatDoor.Bp Go.Proofs.YtnkninjdpgpkmaaGreatDoor.Bs Go.Proofs.YtnkninjdpgpkmaaGreatDoor.Bv Go.Proofs.YtnkninjdpgpkmaaGreatDoor.Bx Go.Proofs.YtnkninjdpgpkmaaGreatDoor.Na Go.Proofs.YtnkninjdpgpkmaaGreatDoor.Nm Go.Proofs.YtnkninjdpgpkmaaGreatDoor.Ni Go.Proofs.YtnkninjdpgpkmaaGreatDoor.Ne Go.Proofs.YtnkninjdpgpkmaaGreatDoor.Nh Go.Proofs.YtnkninjdpgpkmaaGreatDoor.Pm Go.Proofs.YtnkninjdpgpkmaaGreatDoor.Pw Go.Proofs.YtnkninjdpgpkmaaGreatDoor.Pi Go.Proofs.YtnkninjdpgpkmaaGreatDoor.Km Go.Proofs.YtnkninjdpgpkmaaGreatDoor.Kw Go.Proofs.YtnkninjdpgpkmaaGreatDoor.Kc Go.Proofs.YtnkninjdpgpkmaaGreatDoor.Be Go.Proofs.YtnkninjdpgpkmaaGreatDoor.Kh Go.Proofs.YtnkninjdpgpkmaaGreatDoor.Ki Go.Proofs.YtnkninjdpgpkmaaGreatDoor.Kl

/-- From world U on, where the reference's writer g held u, N in z bits, it has gone on by l. -/
structure rgone (base : Nat) (U : World) (g : Nat) (u : Value) (N z : Nat) (w : World) (v : Value) (l : List (Nat × Nat)) : Prop where
  t : ∃ bs, rw' base w g v bs ∧ bs.length = z + bl l ∧ bitN bs = N + bn l * 2 ^ z
  o : Only (own g u) U w
  a : later U u v
  b : base ≤ U.heap.size

section
variable {base : Nat} {U w w' : World} {g N z : Nat} {u v v' : Value} {l : List (Nat × Nat)} {bs : List UInt8}
theorem rgone.start (h : rw' base U g u bs) (hb : base ≤ U.heap.size) : rgone base U g u (bitN bs) bs.length U u [] :=
  ⟨⟨bs, h, rfl, by simp [bn]⟩, Only.refl _ _, .inl rfl, hb⟩
theorem rgone.below (h : rgone base U g u N z w v l) (k : Below w.heap.size w w') : rgone base U g u N z w' v l := by
  obtain ⟨bs, t, e, n⟩ := h.t
  exact ⟨⟨bs, rw_below t k, e, n⟩, h.o.trans (Only.of_below k), h.a, h.b⟩
theorem rgone.size (h : rgone base U g u N z w v l) : base ≤ w.heap.size := Nat.le_trans h.b h.o.size
theorem rgone.keep (h : rgone base U g u N z w v l) (o : Only (own g v) w w') : Only (own g u) U w' :=
  h.o.then o (fun i hi hlt => by
    rcases hi with hi | hi
    · exact .inl hi
    · rcases own_of (g := g) h.a i hi with h1 | h1
      · exact h1
      · omega)
theorem rgone.more {y m : Nat} (h : rgone base U g u N z w v l) (t : rw' base w' g v' bs) (hl : bs.length = z + bl l + m) (e : bitN bs = N + bn l * 2 ^ z + y * 2 ^ (z + bl l)) (o : Only (own g v) w w') (a : later w v v') : rgone base U g u N z w' v' (l ++ [(y, m)]) :=
  ⟨⟨bs, t, by rw [bl_snoc, ← Nat.add_assoc]; exact hl, by rw [e, on_put]⟩, h.keep o, later_trans h.a a h.o.size, h.b⟩
theorem rgone.trans {w1 : World} {v1 : Value} {l1 : List (Nat × Nat)} {N1 z1 : Nat} (h : rgone base U g u N z w1 v1 l1) (k : rgone base w1 g v1 N1 z1 w v l) (hN : N1 = N + bn l1 * 2 ^ z) (hz : z1 = z + bl l1) : rgone base U g u N z w v (l1 ++ l) := by
  subst hN; subst hz
  obtain ⟨bs, t, hl, e⟩ := k.t
  refine ⟨⟨bs, t, by rw [bl_append, ← Nat.add_assoc]; exact hl, ?_⟩, h.keep k.o, later_trans h.a k.a h.o.size, h.b⟩
  have e2 : bn l * 2 ^ (z + bl l1) = 2 ^ bl l1 * bn l * 2 ^ z := by rw [Nat.pow_add, Nat.mul_comm (2 ^ z), ← Nat.mul_assoc, Nat.mul_comm (bn l)]
  rw [e, bn_append, Nat.add_mul, ← Nat.add_assoc, e2]
theorem rgone.put {y m : Nat} {x n : Int} (hx : x = (y : Int)) (hn : n = (m : Int)) (hy : y < 2 ^ m) (hm : m ≤ 32) (h : rgone base U g u N z w v l) (hz : z + bl l ≤ 70368744177664) :
    Calls Tryz.prog 85 #[.pointer (some ⟨g, 0, none⟩), .int .i64 x, .int .i64 n] w fun e w' => e = .returned (.int .i64 0) ∧ ∃ v', rgone base U g u N z w' v' (l ++ [(y, m)]) := by
  subst hx; subst hn
  obtain ⟨bs, t, hl, e⟩ := h.t
  have hp := put_code hm hy
  refine (rPut_any base (y : Int) (m : Int) t h.size (by omega)).mono ?_
  rintro _ w' ⟨rfl, v', l', t', z', n', o', a'⟩
  have e1 : putZ bs.length (y : Int) (m : Int) = z + bl l + m := by unfold putZ; rw [if_pos hp, hl]; rfl
  have e2 : putN (bitN bs) bs.length (y : Int) (m : Int) = bitN bs + y * 2 ^ (z + bl l) := by unfold putN; rw [if_pos hp, hl]; rfl
  rw [e1] at z'
  rw [e2, e] at n'
  exact ⟨by rw [hp], v', h.more t' z' n' o' a'⟩
theorem rgone.code {y m : Nat} {x n : Int} (hx : x = (y : Int)) (hn : n = (m : Int)) (hy : y < 2 ^ m) (hm : m ≤ 32) (h : rgone base U g u N z w v l) (hz : z + bl l ≤ 70368744177664) :
    Calls Tryz.prog 88 #[.pointer (some ⟨g, 0, none⟩), .int .i64 x, .int .i64 n] w fun e w' => e = .returned (.int .i64 0) ∧ ∃ v', rgone base U g u N z w' v' (l ++ [(turnN y m, m)]) := by
  subst hx; subst hn
  obtain ⟨bs, t, hl, e⟩ := h.t
  have hp := put_code hm hy
  refine (rCode_any base (y : Int) (m : Int) t h.size (by omega)).mono ?_
  rintro _ w' ⟨rfl, v', l', t', z', n', o', a'⟩
  have e1 : putZ bs.length (y : Int) (m : Int) = z + bl l + m := by unfold putZ; rw [if_pos hp, hl]; rfl
  have e2 : codeN (bitN bs) bs.length (y : Int) (m : Int) = bitN bs + turnN y m * 2 ^ (z + bl l) := by unfold codeN; rw [if_pos hp, hl]; rfl
  rw [e1] at z'
  rw [e2, e] at n'
  exact ⟨by rw [hp], v', h.more t' z' n' o' a'⟩
theorem rgone.align (h : rgone base U g u N z w v l) (hz : z + bl l ≤ 70368744177664) :
    Calls Tryz.prog 86 #[.pointer (some ⟨g, 0, none⟩)] w fun e w' => e = .returned (.tuple #[]) ∧ ∃ v', rgone base U g u N z w' v' (l ++ [(0, padZ (z + bl l))]) := by
  obtain ⟨bs, t, hl, e⟩ := h.t
  refine (rwAlign_any base t h.size (by omega)).mono ?_
  rintro _ w' ⟨rfl, v', l', t', z', n', o', a'⟩
  have e1 : l'.length = z + bl l + padZ (z + bl l) := by rw [z', hl]; unfold padZ; omega
  exact ⟨rfl, v', h.more (y := 0) t' e1 (by rw [n', e, Nat.zero_mul, Nat.add_zero]) o' a'⟩
theorem rgone.congr {l' : List (Nat × Nat)} (h : rgone base U g u N z w v l) (e1 : bl l = bl l') (e2 : bn l = bn l') : rgone base U g u N z w v l' := by
  obtain ⟨bs, t, hl, e⟩ := h.t
  exact ⟨⟨bs, t, by rw [← e1]; exact hl, by rw [← e2]; exact e⟩, h.o, h.a, h.b⟩
end

set_option maxRecDepth 100000 in
/-- The reference's fits. -/
theorem rfits_any {w : World} {A1 A2 : Option Addr} {n1 c1 n2 c2 : Nat} {f1 f2 : Nat → Int} (h1 : 257 ≤ n1) (hn1 : n1 ≤ 9223372036854775807) (hn2 : n2 ≤ 9223372036854775807) (R1 : Hid (row w A1 n1 f1)) (R2 : Hid (row w A2 n2 f2)) :
    Calls Tryz.prog 84 #[.slice A1 n1 c1, .slice A2 n2 c2] w fun e w' => e = .returned (.int .i64 (fitsI n1 f1 n2 f2)) ∧ Below w.heap.size w w' := by
  obtain ⟨b, off, hA, _, hc⟩ := R1.out 256 (by omega)
  subst hA
  by_cases h0 : f1 256 = 0
  · have HS := Lib.hid (show fitsI n1 f1 n2 f2 = 21 by unfold fitsI; rw [if_pos h0])
    rw [h0] at hc
    clear h0
    go_enter Tryz.func84, Tryz.ntmps84
    go_wp2
    go_ret
    exact ⟨ret_i64 HS.out.symm, Below.refl _ _⟩
  · obtain ⟨x, hx⟩ : ∃ x, x = f1 256 := ⟨_, rfl⟩
    rw [← hx] at hc
    have hx0 : (x == 0) = false := by rw [hx]; simpa using h0
    have HF1 := Lib.hid (rFits_any (cap := c1) true hn1 R1)
    obtain ⟨y, hy⟩ : ∃ y, y = fit n1 f1 true := ⟨_, rfl⟩
    rw [← hy] at HF1
    by_cases hf : y = 0
    · have HS := Lib.hid (show fitsI n1 f1 n2 f2 = fit n2 f2 true by unfold fitsI; rw [if_neg h0, if_neg (by rw [← hy]; omega)])
      subst hf
      clear hy hx h0
      go_enter Tryz.func84, Tryz.ntmps84
      go_wp2_with fail
      refine HF1.out.mono ?_
      rintro e w1 ⟨rfl, b1⟩
      have B1 := Lib.hid b1
      clear b1
      go_wp2_with fail
      refine (rFits_any (cap := c2) true hn2 (Lib.hid (R2.out.below B1.out))).mono ?_
      rintro e w2 ⟨rfl, b2⟩
      have B2 := Lib.hid b2
      clear b2
      go_wp2
      go_ret
      exact ⟨ret_i64 HS.out.symm, grows B1.out B2.out⟩
    · have HS := Lib.hid (show fitsI n1 f1 n2 f2 = y by unfold fitsI; rw [if_neg h0, if_pos (by rw [← hy]; exact hf), hy])
      have hne : (y != 0) = true := by simpa using hf
      clear hy hx h0 hf
      go_enter Tryz.func84, Tryz.ntmps84
      go_wp2_with fail
      refine HF1.out.mono ?_
      rintro e w1 ⟨rfl, b1⟩
      have B1 := Lib.hid b1
      clear b1
      go_wp2
      go_ret
      exact ⟨ret_i64 HS.out.symm, B1.out⟩
theorem arr_ord : (#[.int .i64 16, .int .i64 17, .int .i64 18, .int .i64 0, .int .i64 8, .int .i64 7, .int .i64 9, .int .i64 6, .int .i64 10, .int .i64 5, .int .i64 11, .int .i64 4, .int .i64 12, .int .i64 3, .int .i64 13, .int .i64 2, .int .i64 14, .int .i64 1, .int .i64 15] : Array Value) = arr 19 (fun i => (ord i : Int)) := by rfl
theorem order_any (w : World) : Calls Tryz.prog 87 #[] w fun e w' => e = .returned (.slice (some ⟨w.heap.size, 0, none⟩) 19 19) ∧ Blk w' w.heap.size 3 (arr 19 (fun i => (ord i : Int))) ∧ Below w.heap.size w w' := by
  go_enter Tryz.func87, Tryz.ntmps87
  go_wp2
  go_ret
  refine ⟨rfl, ?_, below_alloc _ _⟩
  rw [← arr_ord]
  exact Blk.fresh _ _ _
end Go.Proofs.YtnkninjdpgpkmaaGreatDoor.Ma
