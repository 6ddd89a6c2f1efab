/-
  Parts that are packed, in numbers: what is written of them is inflated as they stand.
  All parts that are packed, in numbers: what is written of them is inflated as they stand, each part a block.
  Conditions: as each theorem says.
-/
import Derived.Test.YtkcnjhkbcjnbkaaGreatDoorQaj
namespace Go.Proofs.YtkcnjhkbcjnbkaaGreatDoor.Gm
open Go.Proofs.YtkcnjhkbcjnbkaaGreatDoor.Bm Go.Proofs.YtkcnjhkbcjnbkaaGreatDoor.Nm Go.Proofs.YtkcnjhkbcjnbkaaGreatDoor.Ni Go.Proofs.YtkcnjhkbcjnbkaaGreatDoor.Ne Go.Proofs.YtkcnjhkbcjnbkaaGreatDoor.Nh Go.Proofs.YtkcnjhkbcjnbkaaGreatDoor.Pm Go.Proofs.YtkcnjhkbcjnbkaaGreatDoor.Km Go.Proofs.YtkcnjhkbcjnbkaaGreatDoor.Kw Go.Proofs.YtkcnjhkbcjnbkaaGreatDoor.Ks Go.Proofs.YtkcnjhkbcjnbkaaGreatDoor.Sm Go.Proofs.YtkcnjhkbcjnbkaaGreatDoor.Fm Go.Proofs.YtkcnjhkbcjnbkaaGreatDoor.Fa

/-- What follows a first part. -/
theorem rest_in {N z : Nat} {p q : List (Nat × Nat)} (h : N / 2 ^ z % 2 ^ bl (p ++ q) = bn (p ++ q)) (hp : fits2 p) : N / 2 ^ (z + bl p) % 2 ^ bl q = bn q := by
  rw [Nat.pow_add, ← Nat.div_div_eq_div_mul, ← div_mod (N / 2 ^ z) (bl p) (bl (p ++ q)) (bl q) (by rw [bl_append]; omega), h, bn_append, Nat.add_mul_div_left _ _ (Nat.two_pow_pos _), Nat.div_eq_of_lt (bn_lt p hp), Nat.zero_add]
  have : bn q < 2 ^ bl q ∨ True := .inr trivial
  have e := h
  rw [bn_append, bl_append, Nat.pow_add] at e
  have hlt : bn p + 2 ^ bl p * bn q < 2 ^ bl p * 2 ^ bl q := by rw [← e]; exact Nat.mod_lt _ (Nat.mul_pos (Nat.two_pow_pos _) (Nat.two_pow_pos _))
  have h2 : 2 ^ bl p * bn q < 2 ^ bl p * 2 ^ bl q := by omega
  exact Nat.mod_eq_of_lt (Nat.lt_of_mul_lt_mul_left h2)
theorem first_in {N z : Nat} {p q : List (Nat × Nat)} (h : N / 2 ^ z % 2 ^ bl (p ++ q) = bn (p ++ q)) (hp : fits2 p) : N / 2 ^ z % 2 ^ bl p = bn p := by
  rw [← mod_div_le (N / 2 ^ z) (bl p) (bl (p ++ q)) (by rw [bl_append]; omega), h, bn_append, Nat.add_mul_mod_self_left, Nat.mod_eq_of_lt (bn_lt p hp)]
theorem fits2_append {p q : List (Nat × Nat)} (hp : fits2 p) (hq : fits2 q) : fits2 (p ++ q) := fun x hx => by
  rcases List.mem_append.1 hx with h | h
  · exact hp x h
  · exact hq x h
theorem fits2_cons {v m : Nat} {q : List (Nat × Nat)} (hv : v < 2 ^ m) (hq : fits2 q) : fits2 ((v, m) :: q) := fun x hx => by
  rcases List.mem_cons.1 hx with rfl | h
  · exact hv
  · exact hq x h
theorem fits2_nil : fits2 [] := fun _ hx => by cases hx
/-- The first of them, and the rest. -/
theorem peel {N z v m : Nat} {q : List (Nat × Nat)} (h : N / 2 ^ z % 2 ^ bl ((v, m) :: q) = bn ((v, m) :: q)) (hv : v < 2 ^ m) (hq : fits2 q) : peekN N z m = v ∧ N / 2 ^ (z + m) % 2 ^ bl q = bn q := by
  refine ⟨peek_in (p := []) h (fits2_cons hv hq), ?_⟩
  have := rest_in (p := [(v, m)]) h (fits2_cons hv fits2_nil)
  exact this

/-- Lengths that have codes. -/
structure okL (l : List Nat) : Prop where
  h15 : ∀ i, nth l i ≤ 15
  sum : ksum l 16 ≤ 32768
/-- A symbol as it is written. -/
def sy (l : List Nat) (y : Nat) : Nat × Nat := (turnN (code l y) (nth l y), nth l y)
theorem sy_fits (l : List Nat) (y : Nat) : (sy l y).1 < 2 ^ (sy l y).2 := turnN_lt _ _
theorem got_sy {l : List Nat} (ok : okL l) {N a left y : Nat} (hy : y < l.length) (h0 : 0 < nth l y) (hp : peekN N a (nth l y) = (sy l y).1) (hl : nth l y ≤ left) : got l N a left = some y := by
  refine got_some ok.h15 hy ((reads_iff ok.h15 N a y).2 ⟨h0, ?_⟩) hl
  rw [← hi_peek, hp]
  show code l y = turnN (turnN (code l y) (nth l y)) (nth l y)
  rw [turnN_turnN, Nat.mod_eq_of_lt (code_lt hy (ok.h15 y) ok.sum)]

/-- An op: a byte (n = 0), or a copy of n bytes from d ahead. -/
structure Opx where
  x : UInt8
  n : Nat
  d : Nat
/-- What an op makes behind b, and ops one after the other. -/
def opO (b : List UInt8) (o : Opx) : List UInt8 := if o.n = 0 then [o.x] else Wm.out b o.d o.n
def opsO (b : List UInt8) : List Opx → List UInt8
  | [] => []
  | o :: r => opO b o ++ opsO (b ++ opO b o) r
/-- Ops that can be done behind b. -/
def okO (b : List UInt8) (o : Opx) : Prop := o.n = 0 ∨ (3 ≤ o.n ∧ o.n ≤ 258 ∧ 1 ≤ o.d ∧ o.d ≤ 32768 ∧ o.d ≤ b.length)
def okOs (b : List UInt8) : List Opx → Prop
  | [] => True
  | o :: r => okO b o ∧ okOs (b ++ opO b o) r
/-- Their symbols have codes. -/
def has (l : List Nat) (y : Nat) : Prop := y < l.length ∧ 0 < nth l y
def hasO (Li Di : List Nat) (o : Opx) : Prop := if o.n = 0 then has Li o.x.toNat else has Li (257 + lS o.n) ∧ has Di (dS o.d)
/-- An op as it is written. -/
def encO (Li Di : List Nat) (o : Opx) : List (Nat × Nat) :=
  if o.n = 0 then [sy Li o.x.toNat] else [sy Li (257 + lS o.n), (o.n - lB (lS o.n), lb (lS o.n)), sy Di (dS o.d), (o.d - dB (dS o.d), fb 2 (dS o.d))]
def encOs (Li Di : List Nat) : List Opx → List (Nat × Nat)
  | [] => [sy Li 256]
  | o :: r => encO Li Di o ++ encOs Li Di r
theorem encO_fits (Li Di : List Nat) {b : List UInt8} {o : Opx} (h : okO b o) : fits2 (encO Li Di o) := by
  unfold encO
  by_cases h0 : o.n = 0
  · rw [if_pos h0]; exact fits2_cons (sy_fits _ _) fits2_nil
  · rw [if_neg h0]
    rcases h with h | ⟨h1, h2, h3, h4, _⟩
    · exact absurd h h0
    · exact fits2_cons (sy_fits _ _) (fits2_cons (lS_hi h1 h2) (fits2_cons (sy_fits _ _) (fits2_cons (dS_hi h3 h4) fits2_nil)))
theorem encOs_fits (Li Di : List Nat) : ∀ (os : List Opx) (b : List UInt8), okOs b os → fits2 (encOs Li Di os)
  | [], _, _ => fits2_cons (sy_fits _ _) fits2_nil
  | _ :: r, _, h => fits2_append (encO_fits Li Di h.1) (encOs_fits Li Di r _ h.2)

/-- A coded block's ops are made as they were written. -/
theorem cod_enc {Li Di : List Nat} (kL : okL Li) (kD : okL Di) (hE : has Li 256) {N M : Nat} : ∀ (os : List Opx) (a : Nat) (c : List UInt8), okOs c os → (∀ o ∈ os, hasO Li Di o) → N / 2 ^ a % 2 ^ bl (encOs Li Di os) = bn (encOs Li Di os) → a + bl (encOs Li Di os) ≤ M →
    codM Li Di N M a c = (0, a + bl (encOs Li Di os), opsO c os)
  | [], a, c, _, _, hN, hM => by
    have hp := peel (q := []) hN (sy_fits Li 256) fits2_nil
    have hM' : a + (nth Li 256 + 0) ≤ M := hM
    have hg := got_sy kL hE.1 hE.2 hp.1 (show nth Li 256 ≤ M - a by omega)
    rw [cod_fin (sym_fin hg rfl)]
    rfl
  | o :: r, a, c, ho, hh, hN, hM => by
    have hf := encO_fits Li Di ho.1
    have hr := encOs_fits Li Di r _ ho.2
    have hN1 : N / 2 ^ a % 2 ^ bl (encO Li Di o ++ encOs Li Di r) = bn (encO Li Di o ++ encOs Li Di r) := hN
    have hbl : bl (encOs Li Di (o :: r)) = bl (encO Li Di o) + bl (encOs Li Di r) := bl_append _ _
    have hM2 : a + (bl (encO Li Di o) + bl (encOs Li Di r)) ≤ M := by rw [← hbl]; exact hM
    clear hM
    have hN2 := rest_in hN1 hf
    have hho := hh o (by simp)
    have ih := cod_enc kL kD hE (N := N) (M := M) r (a + bl (encO Li Di o)) (c ++ opO c o) ho.2 (fun x hx => hh x (by simp [hx])) hN2 (by omega)
    by_cases h0 : o.n = 0
    · have eo : encO Li Di o = [sy Li o.x.toNat] := by unfold encO; rw [if_pos h0]
      have ep : opO c o = [o.x] := by unfold opO; rw [if_pos h0]
      unfold hasO at hho
      rw [if_pos h0] at hho
      rw [eo] at hN1
      have hp := peel hN1 (sy_fits Li _) hr
      have eb : bl (encO Li Di o) = nth Li o.x.toNat := by rw [eo]; rfl
      have hx : o.x.toNat < 256 := o.x.toNat_lt
      have hg := got_sy kL hho.1 hho.2 hp.1 (show nth Li o.x.toNat ≤ M - a by omega)
      rw [eb, ep] at ih
      have e8 : UInt8.ofNat o.x.toNat = o.x := by simp
      have hlt : a < a + nth Li o.x.toNat ∧ a + nth Li o.x.toNat ≤ M := ⟨by have := hho.2; omega, by omega⟩
      rw [cod_byte (sym_byte hg hx) hlt, e8, ih, hbl, eb]
      simp only [opsO, ep, List.cons_append, List.nil_append]
      rw [Nat.add_assoc]
    · have eo : encO Li Di o = [sy Li (257 + lS o.n), (o.n - lB (lS o.n), lb (lS o.n)), sy Di (dS o.d), (o.d - dB (dS o.d), fb 2 (dS o.d))] := by unfold encO; rw [if_neg h0]
      have ep : opO c o = Wm.out c o.d o.n := by unfold opO; rw [if_neg h0]
      unfold hasO at hho
      rw [if_neg h0] at hho
      obtain ⟨hl, hd⟩ := hho
      obtain ⟨n1, n2, d1, d2, d3⟩ : 3 ≤ o.n ∧ o.n ≤ 258 ∧ 1 ≤ o.d ∧ o.d ≤ 32768 ∧ o.d ≤ c.length := by
        rcases ho.1 with h | h
        · exact absurd h h0
        · exact h
      have hlo := lS_lo n1
      have hle := lS_le o.n
      have hdo := dS_lo d1
      have hde := dS_le o.d
      have f4 : fits2 ((o.d - dB (dS o.d), fb 2 (dS o.d)) :: encOs Li Di r) := fits2_cons (dS_hi d1 d2) hr
      have f3 : fits2 (sy Di (dS o.d) :: (o.d - dB (dS o.d), fb 2 (dS o.d)) :: encOs Li Di r) := fits2_cons (sy_fits _ _) f4
      have f2 : fits2 ((o.n - lB (lS o.n), lb (lS o.n)) :: sy Di (dS o.d) :: (o.d - dB (dS o.d), fb 2 (dS o.d)) :: encOs Li Di r) := fits2_cons (lS_hi n1 n2) f3
      rw [eo] at hN1
      obtain ⟨p1, r1⟩ := peel hN1 (sy_fits Li _) f2
      obtain ⟨p2, r2⟩ := peel r1 (lS_hi n1 n2) f3
      obtain ⟨p3, r3⟩ := peel r2 (sy_fits Di _) f4
      obtain ⟨p4, r4⟩ := peel r3 (dS_hi d1 d2) hr
      have eb : bl (encO Li Di o) = nth Li (257 + lS o.n) + lb (lS o.n) + nth Di (dS o.d) + fb 2 (dS o.d) := by rw [eo]; simp only [bl, sy]; omega
      have hg := got_sy kL hl.1 hl.2 p1 (show nth Li (257 + lS o.n) ≤ M - a by omega)
      have hk : 257 + lS o.n - 257 = lS o.n := by omega
      have hgd := got_sy kD hd.1 hd.2 p3 (show nth Di (dS o.d) ≤ M - (a + nth Li (257 + lS o.n) + lb (lS o.n)) by omega)
      have e1 : symM Li Di N M a c.length = .copy (a + bl (encO Li Di o)) o.n o.d := by
        rw [sym_dis hg (by omega) (by omega) (by rw [hk]; omega), hk]
        have p2' : peekN N (a + nth Li (257 + lS o.n)) (lb (lS o.n)) = o.n - lB (lS o.n) := p2
        have p4' : peekN N (a + nth Li (257 + lS o.n) + lb (lS o.n) + nth Di (dS o.d)) (fb 2 (dS o.d)) = o.d - dB (dS o.d) := p4
        rw [p2', dis_copy hgd (by omega) (by omega) (by rw [p4']; omega), p4', eb]
        rw [show lB (lS o.n) + (o.n - lB (lS o.n)) = o.n by omega, show dB (dS o.d) + (o.d - dB (dS o.d)) = o.d by omega, show a + nth Li (257 + lS o.n) + lb (lS o.n) + nth Di (dS o.d) + fb 2 (dS o.d) = a + (nth Li (257 + lS o.n) + lb (lS o.n) + nth Di (dS o.d) + fb 2 (dS o.d)) by omega]
      have hlt : a < a + bl (encO Li Di o) ∧ a + bl (encO Li Di o) ≤ M := ⟨by have := hl.2; omega, by omega⟩
      rw [ep] at ih
      rw [cod_copy e1 hlt, ih, hbl]
      simp only [opsO, ep]
      rw [Nat.add_assoc]
end Go.Proofs.YtkcnjhkbcjnbkaaGreatDoor.Gm
namespace Go.Proofs.YtkcnjhkbcjnbkaaGreatDoor.Ga
open Go.Proofs.YtkcnjhkbcjnbkaaGreatDoor.Bm Go.Proofs.YtkcnjhkbcjnbkaaGreatDoor.Nm Go.Proofs.YtkcnjhkbcjnbkaaGreatDoor.Ni Go.Proofs.YtkcnjhkbcjnbkaaGreatDoor.Ne Go.Proofs.YtkcnjhkbcjnbkaaGreatDoor.Nh Go.Proofs.YtkcnjhkbcjnbkaaGreatDoor.Pm Go.Proofs.YtkcnjhkbcjnbkaaGreatDoor.Km Go.Proofs.YtkcnjhkbcjnbkaaGreatDoor.Kw Go.Proofs.YtkcnjhkbcjnbkaaGreatDoor.Ks Go.Proofs.YtkcnjhkbcjnbkaaGreatDoor.Sm Go.Proofs.YtkcnjhkbcjnbkaaGreatDoor.Fm Go.Proofs.YtkcnjhkbcjnbkaaGreatDoor.Fa Go.Proofs.YtkcnjhkbcjnbkaaGreatDoor.Gm

theorem fixL_sum : ksum fixL 16 ≤ 32768 := by decide +kernel
theorem fixD_sum : ksum fixD 16 ≤ 32768 := by decide +kernel
theorem fixL_ok : okL fixL := ⟨nth_le fixL_le, fixL_sum⟩
theorem fixD_ok : okL fixD := ⟨nth_le fixD_le, fixD_sum⟩
theorem L_ix (l : List Nat) : L l.length (ix l) = l := by
  refine List.ext_getElem? (fun j => ?_)
  by_cases hj : j < l.length
  · have e : nth (L l.length (ix l)) j = nth l j := by rw [L_nth hj]; unfold ix; rw [Int.toNat_natCast]
    unfold nth at e
    rw [List.getD_eq_getElem?_getD, List.getD_eq_getElem?_getD] at e
    rw [List.getElem?_eq_getElem (by rw [L_length]; exact hj), List.getElem?_eq_getElem hj] at e ⊢
    simp only [Option.getD_some] at e
    rw [e]
  · rw [List.getElem?_eq_none (by rw [L_length]; omega), List.getElem?_eq_none (by omega)]
theorem fits_ok {li di : List Nat} (h : fitsM li di = 0) : okL li ∧ okL di ∧ nth li 256 ≠ 0 := by
  unfold fitsM fitsI at h
  by_cases c4 : ix li 256 = 0
  · rw [if_pos c4] at h; cases h
  rw [if_neg c4] at h
  by_cases c5 : fit li.length (ix li) true ≠ 0
  · rw [if_pos c5] at h; exact absurd h c5
  rw [if_neg c5] at h
  obtain ⟨_, a2, a3⟩ := err_zero (fit_zero (show fit li.length (ix li) true = 0 by omega))
  obtain ⟨_, b2, b3⟩ := err_zero (fit_zero h)
  have l1 := L_le a2
  have l2 := L_le b2
  rw [L_ix] at a3 b3 l1 l2
  refine ⟨⟨l1, a3⟩, ⟨l2, b3⟩, fun e => c4 ?_⟩
  unfold ix; rw [e]; rfl

/-- A part. -/
structure Pt where
  kind : Nat
  text : List UInt8
  ops : List Opx
  lits : List Nat
  dists : List Nat
def lis (p : Pt) : List Nat := if p.kind = 1 then fixL else p.lits
def dis (p : Pt) : List Nat := if p.kind = 1 then fixD else p.dists
def hdP (p : Pt) (fin : Bool) : Hd := ⟨fin, p.kind, p.text.length, p.lits, p.dists⟩
/-- What it stands for behind b; parts one after the other. -/
def ptO (b : List UInt8) (p : Pt) : List UInt8 := if p.kind = 0 then p.text else opsO b p.ops
def ptsO (b : List UInt8) : List Pt → List UInt8
  | [] => []
  | p :: r => ptO b p ++ ptsO (b ++ ptO b p) r
/-- A part that can be written behind b. -/
def okP (b : List UInt8) (p : Pt) : Prop := okH (hdP p false) ∧ (p.kind ≠ 0 → okOs b p.ops ∧ (∀ o ∈ p.ops, hasO (lis p) (dis p) o) ∧ has (lis p) 256)
def okPs (b : List UInt8) : List Pt → Prop
  | [] => True
  | p :: r => okP b p ∧ okPs (b ++ ptO b p) r
/-- A part as it is written at z, and parts. -/
def bodP (p : Pt) : List (Nat × Nat) := if p.kind = 0 then p.text.map (fun x => (x.toNat, 8)) else encOs (lis p) (dis p) p.ops
def encP (p : Pt) (fin : Bool) (z : Nat) : List (Nat × Nat) := outM (hdP p fin) z ++ bodP p
def encPs : List Pt → Nat → List (Nat × Nat)
  | [], _ => []
  | p :: r, z => encP p r.isEmpty z ++ encPs r (z + bl (encP p r.isEmpty z))

theorem okH_fin {p : Pt} (fin : Bool) (h : okH (hdP p false)) : okH (hdP p fin) := ⟨h.k, h.s, h.l⟩
theorem part_ok {b : List UInt8} {p : Pt} (h : okP b p) (hk : p.kind ≠ 0) : okL (lis p) ∧ okL (dis p) := by
  have h2 : p.kind ≤ 2 := h.1.k
  unfold lis dis
  by_cases h1 : p.kind = 1
  · rw [if_pos h1, if_pos h1]; exact ⟨fixL_ok, fixD_ok⟩
  · rw [if_neg h1, if_neg h1]
    have hl := h.1.l (show p.kind = 2 by omega)
    have := fits_ok hl.2.2.2.2.2
    exact ⟨this.1, this.2.1⟩
theorem back_lits {p : Pt} (fin : Bool) (hk : p.kind ≠ 0) (h2 : p.kind ≤ 2) : (back (hdP p fin)).lits = lis p ∧ (back (hdP p fin)).dists = dis p ∧ (back (hdP p fin)).kind = p.kind := by
  unfold back lis dis hdP
  simp only
  rw [if_neg hk]
  by_cases h1 : p.kind = 1
  · rw [if_pos h1, if_pos h1, if_pos h1]; exact ⟨rfl, rfl, h1.symm⟩
  · rw [if_neg h1, if_neg h1, if_neg h1]; exact ⟨rfl, rfl, by show 2 = p.kind; omega⟩
theorem back_fin (h : Hd) : (back h).fin = h.fin := by
  unfold back
  split
  · rfl
  · split <;> rfl
theorem bodP_fits {b : List UInt8} {p : Pt} (h : okP b p) : fits2 (bodP p) := by
  unfold bodP
  by_cases hk : p.kind = 0
  · rw [if_pos hk]
    intro x hx
    obtain ⟨y, _, rfl⟩ := List.mem_map.1 hx
    show y.toNat < 2 ^ 8
    exact y.toNat_lt
  · rw [if_neg hk]; exact encOs_fits _ _ _ b (h.2 hk).1
theorem encP_fits {b : List UInt8} {p : Pt} (h : okP b p) (fin : Bool) (z : Nat) : fits2 (encP p fin z) := fits2_append (outM_fits (okH_fin fin h.1) z) (bodP_fits h)
theorem encPs_fits : ∀ (ps : List Pt) (b : List UInt8) (z : Nat), okPs b ps → fits2 (encPs ps z)
  | [], _, _, _ => fits2_nil
  | _ :: r, _, _, h => fits2_append (encP_fits h.1 _ _) (encPs_fits r _ _ h.2)

/-- The bytes of a stored part. -/
theorem sto_enc {N a : Nat} {t : List UInt8} {q : List (Nat × Nat)} (h : N / 2 ^ a % 2 ^ bl (t.map (fun x => (x.toNat, 8)) ++ q) = bn (t.map (fun x => (x.toNat, 8)) ++ q)) (hf : fits2 (t.map (fun x => (x.toNat, 8)) ++ q)) : stoB N a t.length = t := by
  have e : t.map (fun x => (x.toNat, 8)) = (t.map (fun x : UInt8 => x.toNat)).map (fun x => (x, 8)) := by rw [List.map_map]; rfl
  rw [e] at h hf
  refine List.ext_getElem? (fun i => ?_)
  unfold stoB
  by_cases hi : i < t.length
  · have hx : (t.map (fun x : UInt8 => x.toNat))[i]? = some t[i].toNat := by rw [List.getElem?_map, List.getElem?_eq_getElem hi]; rfl
    have hp := peek_map (p := []) (fun x => x) 8 h hf hx
    simp only [bl, Nat.zero_add] at hp
    rw [List.getElem?_map, List.getElem?_range hi, List.getElem?_eq_getElem hi]
    simp only [Option.map_some, hp]
    simp
  · rw [List.getElem?_eq_none (by simp; omega), List.getElem?_eq_none (by omega)]
theorem bl_text (t : List UInt8) : bl (t.map (fun x => (x.toNat, 8))) = 8 * t.length := by
  have e : t.map (fun x => (x.toNat, 8)) = (t.map (fun x : UInt8 => x.toNat)).map (fun x => (x, 8)) := by rw [List.map_map]; rfl
  rw [e, bl_map (t.map (fun x : UInt8 => x.toNat)) (fun x => x) 8, List.length_map]

/-- A part's block. -/
theorem part_enc {N M a : Nat} {c : List UInt8} {p : Pt} (fin : Bool) {q : List (Nat × Nat)} (h : okP c p) (hN : N / 2 ^ a % 2 ^ bl (encP p fin a ++ q) = bn (encP p fin a ++ q)) (hq : fits2 q) (hM : a + bl (encP p fin a) ≤ M) :
    (headM N M a).1 = 0 ∧ (headM N M a).2.1.fin = fin ∧ bodM (headM N M a).2.1 N M (headM N M a).2.2 c = (0, a + bl (encP p fin a), ptO c p) := by
  have hkk : p.kind ≤ 2 := h.1.k
  have hok := okH_fin fin h.1
  have e : encP p fin a ++ q = outM (hdP p fin) a ++ (bodP p ++ q) := by unfold encP; rw [List.append_assoc]
  rw [e] at hN
  have hfo := outM_fits hok a
  have hbf := bodP_fits h
  have hbl : bl (encP p fin a) = bl (outM (hdP p fin) a) + bl (bodP p) := bl_append _ _
  have hh := head_back hok (first_in hN hfo) (show a + bl (outM (hdP p fin) a) ≤ M by omega)
  have hr := rest_in hN hfo
  rw [hh]
  refine ⟨rfl, (back_fin (hdP p fin)).trans rfl, ?_⟩
  simp only
  rw [hbl]
  by_cases hk : p.kind = 0
  · have eb : bodP p = p.text.map (fun x => (x.toNat, 8)) := by unfold bodP; rw [if_pos hk]
    have ek : (back (hdP p fin)).kind = 0 ∧ (back (hdP p fin)).size = p.text.length := by unfold back; rw [if_pos (show (hdP p fin).kind = 0 from hk)]; exact ⟨rfl, rfl⟩
    rw [eb] at hr hbf hbl ⊢
    have h8 := bl_text p.text
    unfold bodM
    rw [if_pos ek.1, ek.2, if_neg (by omega), sto_enc hr (fits2_append hbf hq)]
    unfold ptO
    rw [if_pos hk, h8]
    congr 2
    omega
  · have eb : bodP p = encOs (lis p) (dis p) p.ops := by unfold bodP; rw [if_neg hk]
    obtain ⟨b1, b2, b3⟩ := back_lits fin hk hkk
    obtain ⟨k1, k2⟩ := part_ok h hk
    obtain ⟨o1, o2, o3⟩ := h.2 hk
    rw [eb] at hr hbf hbl ⊢
    unfold bodM
    rw [if_neg (by rw [b3]; exact hk), b1, b2, cod_enc k1 k2 o3 p.ops _ c o1 o2 (first_in hr hbf) (by omega)]
    unfold ptO
    rw [if_neg hk]
    congr 2
    omega
/-- All parts' blocks. -/
theorem all_enc {N M : Nat} : ∀ (ps : List Pt) (a : Nat) (c : List UInt8) (k : Nat), ps ≠ [] → okPs c ps → N / 2 ^ a % 2 ^ bl (encPs ps a) = bn (encPs ps a) → a + bl (encPs ps a) ≤ M →
    (allM N M a c k).1 = 0 ∧ (allM N M a c k).2.1.length = ps.length ∧ (allM N M a c k).2.2.1 = a + bl (encPs ps a) ∧ (allM N M a c k).2.2.2 = ptsO c ps
  | [], _, _, _, h, _, _, _ => absurd rfl h
  | p :: r, a, c, k, _, ok, hN, hM => by
    have hN1 : N / 2 ^ a % 2 ^ bl (encP p r.isEmpty a ++ encPs r (a + bl (encP p r.isEmpty a))) = bn (encP p r.isEmpty a ++ encPs r (a + bl (encP p r.isEmpty a))) := hN
    have hbl : bl (encPs (p :: r) a) = bl (encP p r.isEmpty a) + bl (encPs r (a + bl (encP p r.isEmpty a))) := bl_append _ _
    rw [hbl] at hM ⊢
    have hf := encP_fits ok.1 r.isEmpty a
    obtain ⟨h1, h2, h3⟩ := part_enc (M := M) r.isEmpty ok.1 hN1 (encPs_fits r _ _ ok.2) (by omega)
    cases r with
    | nil =>
      rw [all_stop h1 (.inr h2), h3]
      exact ⟨rfl, rfl, rfl, by simp [ptsO]⟩
    | cons q r =>
      have ih := all_enc (N := N) (M := M) (q :: r) (a + bl (encP p false a)) (c ++ ptO c p) (k + (ptO c p).length) (by simp) ok.2 (rest_in hN1 hf) (by
        have e : (q :: r).isEmpty = false := rfl
        rw [e] at hM; omega)
      have e : (q :: r).isEmpty = false := rfl
      rw [e] at h2 h3 ⊢
      rw [all_next h1 (by rw [h3]) h2 h3.symm]
      simp only
      obtain ⟨i1, i2, i3, i4⟩ := ih
      refine ⟨i1, by simp only [List.length_cons] at i2 ⊢; omega, by rw [i3]; omega, ?_⟩
      rw [i4]; rfl
end Go.Proofs.YtkcnjhkbcjnbkaaGreatDoor.Ga
