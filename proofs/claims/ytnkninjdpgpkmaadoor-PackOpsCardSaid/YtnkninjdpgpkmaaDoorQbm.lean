/-
  The packer's parts: part and Encode: what is written, and what is wrong.
  What must come of the fixed calls of layer 11.
  The reference's run, Ops and OpsSame: their results.
  The reference's OpsSame and Same of equal lists.
  Conditions: as each theorem says.
-/
import Derived.Test.YtnkninjdpgpkmaaDoorQbl
import Derived.Test.YtnkninjdpgpkmaaDoorQbk
import Derived.BigQuiet
import Derived.Deep.QuietTactic
namespace Go.Proofs.YtnkninjdpgpkmaaDoor.Gz
open Go.RowKit Go.Proofs.YtnkninjdpgpkmaaDoor.Vm Go.Proofs.YtnkninjdpgpkmaaDoor.Vo Go.Proofs.YtnkninjdpgpkmaaDoor.Bm Go.Proofs.YtnkninjdpgpkmaaDoor.Bw Go.Proofs.YtnkninjdpgpkmaaDoor.Bv Go.Proofs.YtnkninjdpgpkmaaDoor.Bx Go.Proofs.YtnkninjdpgpkmaaDoor.Na Go.Proofs.YtnkninjdpgpkmaaDoor.Ni Go.Proofs.YtnkninjdpgpkmaaDoor.Nm Go.Proofs.YtnkninjdpgpkmaaDoor.Ne Go.Proofs.YtnkninjdpgpkmaaDoor.Nh Go.Proofs.YtnkninjdpgpkmaaDoor.Pm Go.Proofs.YtnkninjdpgpkmaaDoor.Ko Go.Proofs.YtnkninjdpgpkmaaDoor.Km Go.Proofs.YtnkninjdpgpkmaaDoor.Kw Go.Proofs.YtnkninjdpgpkmaaDoor.Ks Go.Proofs.YtnkninjdpgpkmaaDoor.Kd Go.Proofs.YtnkninjdpgpkmaaDoor.Ke Go.Proofs.YtnkninjdpgpkmaaDoor.Kh Go.Proofs.YtnkninjdpgpkmaaDoor.Kl Go.Proofs.YtnkninjdpgpkmaaDoor.Ky Go.Proofs.YtnkninjdpgpkmaaDoor.Sm Go.Proofs.YtnkninjdpgpkmaaDoor.Gm Go.Proofs.YtnkninjdpgpkmaaDoor.Ga Go.Proofs.YtnkninjdpgpkmaaDoor.Gp Go.Proofs.YtnkninjdpgpkmaaDoor.Gt Go.Proofs.YtnkninjdpgpkmaaDoor.Gw Go.Proofs.YtnkninjdpgpkmaaDoor.Gx Go.Proofs.YtnkninjdpgpkmaaDoor.Gy

theorem pkR.one {B : Nat} {w w' : World} {cl wl cd wd g : Nat} {Li Di : List Nat} {v : Value} {l x : List (Nat × Nat)} {er : Int} {e : Ending} (h : pkR B w cl wl cd wd Li Di g v l er x e w') :
    e = .returned (.int .i64 er) ∧ stay B w w' ∧ (er = 0 → ∃ v', pk B w' cl wl cd wd Li Di g v' (l ++ x) ∧ Only (pko g v wl wd) w w' ∧ later w v v') := by
  rcases h with ⟨h1, h2, h3⟩ | ⟨h1, h2, v', h3, h4, h5, h6⟩
  · exact ⟨h2, h3, fun e => absurd e h1⟩
  · exact ⟨by rw [h2, h1], h5, fun _ => ⟨v', h3, h4, h6⟩⟩
theorem bn_text : ∀ t : List UInt8, bn (t.map (fun x => (x.toNat, 8))) = num t
  | [] => rfl
  | x :: t => by
    have e : num (x :: t) = x.toNat + 2 ^ 8 * num t := by
      have := num_append [x] t
      simp [num]
    rw [List.map_cons, bn, bn_text t, e]
section
variable {B : Nat} {w : World} {g : Nat} {v : Value} {l : List (Nat × Nat)}
theorem wrl.bytes (s : ByteArray) (h : wrl B w g v l) (h8 : bl l % 8 = 0) (hz : bl l ≤ 281474976710656) (hs : s.size ≤ 70368744177664) :
    Calls Tryd.prog 36 #[.pointer (some ⟨g, 0, none⟩), .string s] w fun e w' => e = .returned (.tuple #[]) ∧ ∃ v', wrl B w' g v' (l ++ s.data.toList.map (fun x => (x.toNat, 8))) ∧ Only (own g v) w w' := by
  obtain ⟨bs, t, e⟩ := h.t
  have hl : 8 * bs.length = bl l := by rw [t.len]; omega
  refine (wBytes_any B s t h.size hz hs).mono ?_
  rintro e' w' ⟨rfl, v', t', o', _⟩
  have hsl : s.data.toList.length = s.size := Array.length_toList
  refine ⟨rfl, v', ⟨⟨bs ++ s.data.toList, ?_, ?_⟩, h.g⟩, o'⟩
  · rw [bl_append, bl_text, hsl, ← hl, ← Nat.mul_add]; exact t'
  · rw [num_append, e, bn_append, bn_text, hl]
/-- A head that is written. -/
theorem wrl.head {b : Bool} {k z : Int} {A1 A2 : Option Addr} {n1 c1 n2 c2 : Nat} {f1 f2 : Nat → Int} (h : wrl B w g v l) (hz : bl l ≤ 281474976710656) (hn1 : n1 ≤ 9223372036854775807) (hn2 : n2 ≤ 9223372036854775807) (HR : Hid (∀ x, Only (own g v) w x → row x A1 n1 f1 ∧ row x A2 n2 f2 ∧ ordM x)) :
    Calls Tryd.prog 34 #[.pointer (some ⟨g, 0, none⟩), hv b k z (.slice A1 n1 c1) (.slice A2 n2 c2)] w fun e w' => e = .returned (.int .i64 (wrM k z n1 f1 n2 f2)) ∧ ∃ v', wrl B w' g v' (l ++ wrO b k z n1 f1 n2 f2 (bl l)) ∧ Only (own g v) w w' := by
  obtain ⟨bs, t, e⟩ := h.t
  refine (Write_any (c1 := c1) (c2 := c2) (b := b) (Lib.hid t) h.size hz hn1 hn2 HR).mono ?_
  rintro e' w' ⟨rfl, v', k'⟩
  have h2 := h.goes e k'
  exact ⟨rfl, v', h2.1, h2.2.1⟩
end
theorem err_fix : err 288 (ix fixL) = 0 ∧ err 32 (ix fixD) = 0 := by
  have h1 : ∀ (l : List Nat), (∀ i, nth l i ≤ 15) → ksum l 16 ≤ 32768 → l.length ≤ 320 → err l.length (ix l) = 0 := fun l h15 hk hl => by
    refine err_ok (bad_ok hl (fun i _ => ?_)) (by rw [L_ix]; omega)
    have := h15 i
    unfold ix; omega
  exact ⟨by have := h1 fixL fixL_ok.h15 fixL_ok.sum (by rw [fixL_length]; omega); rw [fixL_length] at this; exact this, by have := h1 fixD fixD_ok.h15 fixD_ok.sum (by rw [fixD_length]; omega); rw [fixD_length] at this; exact this⟩
theorem L_fix : L 288 (ix fixL) = fixL ∧ L 32 (ix fixD) = fixD := by
  have h1 := L_ix fixL
  have h2 := L_ix fixD
  rw [fixL_length] at h1
  rw [fixD_length] at h2
  exact ⟨h1, h2⟩
/-- An own row of lengths stays. -/
theorem lst_rowS {B : Nat} {w : World} {A : Option Addr} {n c : Nat} {l : List Nat} (h : lst w (.slice A n c) l) : n = l.length ∧ rowS B w A n (ix l) := by
  obtain ⟨h1, h2⟩ := lst.row h
  refine ⟨h1, h2, ?_⟩
  by_cases h0 : n = 0
  · exact .inl h0
  · rcases h.2 with ⟨e0, _⟩ | ⟨b, cap, cur, e1, _, hh, _⟩
    · injection e0 with _ e0 _; exact absurd e0 h0
    · injection e1 with e1 _ _
      exact .inr ⟨b, 0, e1, .inr ⟨_, hh⟩⟩

/-- The packer on its way. -/
structure enc (W w : World) (e0 cl wl cd wd g : Nat) (v : Value) (l : List (Nat × Nat)) : Prop where
  e : Blk w e0 63 #[.pointer (some ⟨g, 0, none⟩), .pointer (some ⟨cl, 0, none⟩), .pointer (some ⟨cd, 0, none⟩)]
  p : pk W.heap.size w cl wl cd wd fixL fixD g v l
  b : Below W.heap.size W w
section
variable {W w w' : World} {e0 cl wl cd wd g : Nat} {v v' : Value} {l l' : List (Nat × Nat)}
theorem enc.below (h : enc W w e0 cl wl cd wd g v l) (k : Below w.heap.size w w') : enc W w' e0 cl wl cd wd g v l := ⟨h.e.below k, h.p.below k, grows h.b k⟩
theorem enc.size (h : enc W w e0 cl wl cd wd g v l) : W.heap.size ≤ w.heap.size := h.b.size
theorem enc.wr (h : enc W w e0 cl wl cd wd g v l) (k : wrl W.heap.size w' g v' l') (o : Only (own g v) w w') : enc W w' e0 cl wl cd wd g v' l' := by
  have s := h.p.w.stay o
  obtain ⟨⟨_, h1⟩, ⟨_, h2⟩⟩ := h.p.words
  exact ⟨s.blk h.e ⟨by decide, by decide, by decide⟩, ⟨h.p.a.only s o (own_not h.p.w h1 ⟨by decide, by decide⟩), h.p.b.only s o (own_not h.p.w h2 ⟨by decide, by decide⟩), h.p.ne, k⟩, s.below h.b h.b.size⟩
end
/-- What part leaves. -/
def ptR (W : World) (e0 cl wl cd wd g : Nat) (er : Int) (l : List (Nat × Nat)) (e : Ending) (w' : World) : Prop :=
  e = .returned (.int .i64 er) ∧ Below W.heap.size W w' ∧ (er = 0 → ∃ v', enc W w' e0 cl wl cd wd g v' l)
theorem okI_of : ∀ (os : List Opi) (b : List UInt8), (opsT b os).1 = 0 → ∀ o ∈ os, okI o
  | [], _, _, _, h => by cases h
  | o :: r, b, h, x, hx => by
    rw [opsT_cons] at h
    by_cases h0 : opW b.length o = 0
    · rw [if_pos h0] at h
      rcases List.mem_cons.1 hx with rfl | hx
      · rcases opW_zero h0 with h | ⟨h1, h2, h3, h4, _⟩
        · exact .inl h
        · exact .inr ⟨h1, h2, h3, h4⟩
      · exact okI_of r _ h x hx
    · rw [if_neg h0] at h; exact absurd h h0
theorem fitsI_err {n1 n2 : Nat} {f1 f2 : Nat → Int} (h : fitsI n1 f1 n2 f2 = 0) : err n1 f1 = 0 ∧ err n2 f2 = 0 := by
  unfold fitsI at h
  by_cases c4 : f1 256 = 0
  · rw [if_pos c4] at h; cases h
  rw [if_neg c4] at h
  by_cases c5 : fit n1 f1 true ≠ 0
  · rw [if_pos c5] at h; exact absurd h c5
  rw [if_neg c5] at h
  exact ⟨fit_zero (show fit n1 f1 true = 0 by omega), fit_zero h⟩
theorem dyn_ops {W w : World} {e0 cl wl cd wd g xl yl xd yd N co : Nat} {v : Value} {l : List (Nat × Nat)} {Li Di : List Nat} {Ao : Option Addr} {os : List Opi} {b : List UInt8} (hos : opr W Ao os) (ht : (opsT b os).1 = 0) (h : enc W w e0 cl wl cd wd g v l)
    (q1 : cod W.heap.size w xl yl Li) (q2 : cod W.heap.size w xd yd Di) (q3 : yl ≠ yd) (hN : N = os.length) (hz : bl l + opsB (os.map Opi.nat) ≤ 281474976700000) :
    Calls Tryd.prog 35 #[.pointer (some ⟨e0, 0, none⟩), .slice Ao N co, .agg #[.pointer (some ⟨xl, 0, none⟩), .pointer (some ⟨xd, 0, none⟩)]] w fun e w' => e = .returned (.int .i64 (opsE Li Di (os.map Opi.nat))) ∧ stay W.heap.size w w' ∧ (opsE Li Di (os.map Opi.nat) = 0 → ∃ v', pk W.heap.size w' xl yl xd yd Li Di g v' (l ++ encOs Li Di (os.map Opi.nat)) ∧ Only (pko g v yl yd) w w' ∧ later w v v') := by
  rw [hN]
  exact (ops_any hos (okI_of os b ht) h.b rfl ⟨q1, q2, q3, h.p.w⟩ h.e hz).mono (fun e w' ho => pkR.one ho)
set_option maxHeartbeats 4000000 in
set_option maxRecDepth 100000 in
theorem part_any {W w : World} {e0 cl wl cd wd g : Nat} {v : Value} {l : List (Nat × Nat)} {p : Pz} {fin : Bool} {Ao A1 A2 : Option Addr} {co c1 c2 : Nat} {b : List UInt8} (h : enc W w e0 cl wl cd wd g v l) (hO : ordM W) (hos : opr W Ao p.os)
    (h1 : rowS W.heap.size W A1 p.n1 p.f1) (h2 : rowS W.heap.size W A2 p.n2 p.f2) (hn1 : p.n1 ≤ 9223372036854775807) (hn2 : p.n2 ≤ 9223372036854775807) (ht : (ptT b p).1 = 0) (hz : bl l + ptB p ≤ 281474976700000) :
    Calls Tryd.prog 26 #[.pointer (some ⟨e0, 0, none⟩), .agg #[.int .i64 p.k, .string p.t, .slice Ao p.os.length co, .slice A1 p.n1 c1, .slice A2 p.n2 c2], .bool fin] w (ptR W e0 cl wl cd wd g (ptE p) (l ++ encP p.pt fin (bl l))) := by
  obtain ⟨R, hR⟩ : ∃ R, R = ptE p := ⟨_, rfl⟩
  obtain ⟨X, hX⟩ : ∃ X, X = l ++ encP p.pt fin (bl l) := ⟨_, rfl⟩
  rw [← hR, ← hX]
  obtain ⟨w1, hw1⟩ : ∃ w1, w1 = (w.alloc (.cells #[.int .i64 p.k, .string p.t, .slice Ao p.os.length co, .slice A1 p.n1 c1, .slice A2 p.n2 c2] 38)).alloc (.cells #[.bool fin, .int .i64 p.k, .int .i64 (p.t.size : Int), .slice A1 p.n1 c1, .slice A2 p.n2 c2] 77) := ⟨_, rfl⟩
  obtain ⟨Z, hZ⟩ : ∃ Z, Z = w.heap.size := ⟨_, rfl⟩
  have B1 : Hid (Below w.heap.size w w1) := Lib.hid (by rw [hw1]; exact grows (below_alloc _ _) (below_alloc _ _))
  have K1 : Hid (Blk w1 Z 38 #[.int .i64 p.k, .string p.t, .slice Ao p.os.length co, .slice A1 p.n1 c1, .slice A2 p.n2 c2]) := Lib.hid (by rw [hw1, hZ]; exact (Blk.fresh _ _ _).below (below_alloc _ _))
  have K2 : Hid (Blk w1 (Z + 1) 77 #[.bool fin, .int .i64 p.k, .int .i64 (p.t.size : Int), .slice A1 p.n1 c1, .slice A2 p.n2 c2]) := Lib.hid (by
    rw [hw1, hZ]
    have := Blk.fresh (w.alloc (.cells #[.int .i64 p.k, .string p.t, .slice Ao p.os.length co, .slice A1 p.n1 c1, .slice A2 p.n2 c2] 38)) 77 #[.bool fin, .int .i64 p.k, .int .i64 (p.t.size : Int), .slice A1 p.n1 c1, .slice A2 p.n2 c2]
    rw [size_alloc] at this
    exact this)
  have E1 := Lib.hid (h.below B1.out)
  have ED := Lib.hid (E1.out.below (Below.refl _ w1).drew)
  have HSZ : Hid (p.t.size ≤ 70368744177664 ∧ bl l ≤ 281474976700000) := Lib.hid (by unfold ptB at hz; omega)
  have HWR := Lib.hid (wrl.head (b := fin) (k := p.k) (z := (p.t.size : Int)) (A1 := A1) (n1 := p.n1) (c1 := c1) (f1 := p.f1) (A2 := A2) (n2 := p.n2) (c2 := c2) (f2 := p.f2) ED.out.p.w (by have := HSZ.out.2; omega) hn1 hn2 (Lib.hid (fun x o => by
    have s := (ED.out.p.w.stay o).below ED.out.b ED.out.b.size
    exact ⟨h1.1.below s, h2.1.below s, hO.below s⟩)))
  have HOS := Lib.hid hos
  have R1 := Lib.hid h1
  have R2 := Lib.hid h2
  have HT := Lib.hid ht
  have HZ := Lib.hid hz
  have HR := Lib.hid hR
  have HX := Lib.hid hX
  have k0 : w1.cell? ⟨Z, 0, none⟩ = some (.int .i64 p.k) := K1.out.cell 0
  have j0 : w1.cell? ⟨Z + 1, 0, none⟩ = some (.bool fin) := K2.out.cell 0
  have j1 : w1.cell? ⟨Z + 1, 1, none⟩ = some (.int .i64 p.k) := K2.out.cell 1
  have j2 : w1.cell? ⟨Z + 1, 2, none⟩ = some (.int .i64 (p.t.size : Int)) := K2.out.cell 2
  have j3 : w1.cell? ⟨Z + 1, 3, none⟩ = some (.slice A1 p.n1 c1) := K2.out.cell 3
  have j4 : w1.cell? ⟨Z + 1, 4, none⟩ = some (.slice A2 p.n2 c2) := K2.out.cell 4
  have r0 : w1.cell? ⟨e0, 0, none⟩ = some (.pointer (some ⟨g, 0, none⟩)) := E1.out.e.cell 0
  obtain ⟨M, hM⟩ : ∃ M, M = wrM p.k (p.t.size : Int) p.n1 p.f1 p.n2 p.f2 := ⟨_, rfl⟩
  have HM := Lib.hid hM
  rw [← hM] at HWR
  clear h hO hos h1 h2 hn1 hn2 ht hz hR hX hM
  obtain ⟨k, t, os, n1, f1, n2, f2⟩ := p
  dsimp only at *
  obtain ⟨No, hNo⟩ : ∃ No, No = os.length := ⟨_, rfl⟩
  rw [← hNo] at hw1 K1 ⊢
  have HNO := Lib.hid hNo
  clear hNo
  go_enter Tryd.func26, Tryd.ntmps26
  go_wp2_with fail
  rw [← hw1, ← hZ]
  clear hw1 hZ
  go_still_tail 5, (by kernel_rfl)
  go_wp2_with fail
  refine HWR.out.mono ?_
  rintro e w2 ⟨rfl, v2, k2, o2⟩
  have E2 := Lib.hid (ED.out.wr k2 o2)
  have S2 : Hid (stay W.heap.size w1 w2) := Lib.hid ((stay.of_below (Below.refl _ w1).drew).trans (ED.out.p.w.stay o2))
  have KP : Hid (Blk w2 Z 38 #[.int .i64 k, .string t, .slice Ao No co, .slice A1 n1 c1, .slice A2 n2 c2]) := Lib.hid (S2.out.blk K1.out ⟨by decide, by decide, by decide⟩)
  clear k2 o2 HWR k0 j0 j1 j2 j3 j4 r0
  by_cases hM0 : M = 0
  · have hMb : (M != 0) = false := by simp [hM0]
    subst hM0
    have HHW := Lib.hid (wr_part (p := ⟨k, t, os, n1, f1, n2, f2⟩) (by exact HM.out.symm))
    have HWO : Hid (wrO fin k (t.size : Int) n1 f1 n2 f2 (bl l) = outM (hdP (Pz.pt ⟨k, t, os, n1, f1, n2, f2⟩) fin) (bl l)) := Lib.hid (by
      unfold wrO
      rw [if_pos HM.out.symm]
      unfold hdP Pz.pt
      simp only [Array.length_toList, Int.toNat_natCast]
      rfl)
    rw [HWO.out] at E2
    have HOB : Hid (bl (outM (hdP (Pz.pt ⟨k, t, os, n1, f1, n2, f2⟩) fin) (bl l)) ≤ 1400) := Lib.hid (outM_bl (okH_fin fin HHW.out.1) _)
    have HRR : Hid (R = if k = 0 then 0 else opsE (lis (Pz.pt ⟨k, t, os, n1, f1, n2, f2⟩)) (dis (Pz.pt ⟨k, t, os, n1, f1, n2, f2⟩)) (os.map Opi.nat)) := Lib.hid (by
      rw [HR.out]
      unfold ptE
      dsimp only
      rw [← HM.out, if_neg (by decide)]
      rfl)
    obtain ⟨Y, hY⟩ : ∃ Y, Y = l ++ outM (hdP (Pz.pt ⟨k, t, os, n1, f1, n2, f2⟩) fin) (bl l) := ⟨_, rfl⟩
    rw [← hY] at E2
    have HY := Lib.hid hY
    have HYB : Hid (bl Y ≤ bl l + 1400) := Lib.hid (by rw [hY, bl_append]; have := HOB.out; omega)
    have HXX : Hid (X = Y ++ bodP (Pz.pt ⟨k, t, os, n1, f1, n2, f2⟩)) := Lib.hid (by rw [HX.out, hY, encP, List.append_assoc])
    clear hY
    have a0 : w2.cell? ⟨Z, 0, none⟩ = some (.int .i64 k) := KP.out.cell 0
    have a1 : w2.cell? ⟨Z, 1, none⟩ = some (.string t) := KP.out.cell 1
    have a2 : w2.cell? ⟨Z, 2, none⟩ = some (.slice Ao No co) := KP.out.cell 2
    have a3 : w2.cell? ⟨Z, 3, none⟩ = some (.slice A1 n1 c1) := KP.out.cell 3
    have a4 : w2.cell? ⟨Z, 4, none⟩ = some (.slice A2 n2 c2) := KP.out.cell 4
    have b0 : w2.cell? ⟨e0, 0, none⟩ = some (.pointer (some ⟨g, 0, none⟩)) := E2.out.e.cell 0
    have b1 : w2.cell? ⟨e0, 1, none⟩ = some (.pointer (some ⟨cl, 0, none⟩)) := E2.out.e.cell 1
    have b2 : w2.cell? ⟨e0, 2, none⟩ = some (.pointer (some ⟨cd, 0, none⟩)) := E2.out.e.cell 2
    have E2D := Lib.hid (E2.out.below (Below.refl _ w2).drew)
    have hk := HHW.out.2
    dsimp only at hk
    rcases (show k = 0 ∨ k = 1 ∨ k = 2 by omega) with h | h | h
    · subst h
      have H8 : Hid (bl Y % 8 = 0) := Lib.hid (by
        rw [HY.out, bl_append]
        unfold outM
        rw [if_pos (show (hdP (Pz.pt ⟨0, t, os, n1, f1, n2, f2⟩) fin).kind = 0 from rfl)]
        simp only [bl, List.cons_append, List.nil_append, padZ]
        omega)
      have HBY := Lib.hid (wrl.bytes t E2D.out.p.w H8.out (by have h1 := HYB.out; have h2 := HSZ.out.2; omega) HSZ.out.1)
      have HB0 : Hid (bodP (Pz.pt ⟨0, t, os, n1, f1, n2, f2⟩) = t.data.toList.map (fun x => (x.toNat, 8))) := Lib.hid (by unfold bodP; rw [if_pos (show (Pz.pt ⟨0, t, os, n1, f1, n2, f2⟩).kind = 0 from rfl)]; rfl)
      have HR0 : Hid (R = 0) := Lib.hid (by rw [HRR.out, if_pos rfl])
      clear hk
      go_wp2_with fail
      go_still_tail 6, (by kernel_rfl)
      go_wp2_with fail
      refine HBY.out.mono ?_
      rintro e w3 ⟨rfl, v3, k3, o3⟩
      have E3 := Lib.hid (E2D.out.wr k3 o3)
      clear k3 o3
      go_wp2
      go_ret
      exact ⟨by rw [HR0.out]; rfl, E3.out.b, fun _ => ⟨v3, by rw [HXX.out, HB0.out]; exact E3.out⟩⟩
    · subst h
      have HPT : Hid ((opsT b os).1 = 0) := Lib.hid (by have := HT.out; unfold ptT at this; dsimp only at this; rw [if_neg (by omega), if_neg (by omega)] at this; exact this)
      have HL : Hid (lis (Pz.pt ⟨1, t, os, n1, f1, n2, f2⟩) = fixL ∧ dis (Pz.pt ⟨1, t, os, n1, f1, n2, f2⟩) = fixD) := Lib.hid ⟨if_pos rfl, if_pos rfl⟩
      have HB0 : Hid (bodP (Pz.pt ⟨1, t, os, n1, f1, n2, f2⟩) = encOs fixL fixD (os.map Opi.nat)) := Lib.hid (by unfold bodP; rw [if_neg (show ¬ (Pz.pt ⟨1, t, os, n1, f1, n2, f2⟩).kind = 0 by show ¬ (1 : Nat) = 0; decide), HL.out.1, HL.out.2]; rfl)
      have HR0 : Hid (R = opsE fixL fixD (os.map Opi.nat)) := Lib.hid (by rw [HRR.out, if_neg (by decide), HL.out.1, HL.out.2])
      have HOP := Lib.hid (ops_any (co := co) HOS.out (okI_of os b HPT.out) E2D.out.b rfl E2D.out.p E2D.out.e (by have h1 := HYB.out; have h2 := HZ.out; unfold ptB at h2; have e : (Pz.pt ⟨1, t, os, n1, f1, n2, f2⟩).ops = os.map Opi.nat := rfl; rw [e] at h2; omega))
      rw [← HNO.out] at HOP
      clear hk
      go_wp2_with fail
      go_still_tail 7, (by kernel_rfl)
      go_wp2_with fail
      refine HOP.out.mono ?_
      intro e w3 ho
      obtain ⟨rfl, h3, h4⟩ := pkR.one ho
      have H3 := Lib.hid h3
      have H4 := Lib.hid h4
      clear ho h3 h4
      go_wp2
      go_ret
      have s3 := H3.out.below E2D.out.b E2D.out.b.size
      refine ⟨by rw [HR0.out]; rfl, s3, fun e => ?_⟩
      obtain ⟨v3, p3, o3, l3⟩ := H4.out (by rw [← HR0.out]; exact e)
      exact ⟨v3, H3.out.blk E2D.out.e ⟨by decide, by decide, by decide⟩, by rw [HXX.out, HB0.out]; exact p3, s3⟩
    · subst h
      have HPT : Hid ((opsT b os).1 = 0) := Lib.hid (by have := HT.out; unfold ptT at this; dsimp only at this; rw [if_neg (by omega), if_neg (by omega)] at this; exact this)
      have HL : Hid (lis (Pz.pt ⟨2, t, os, n1, f1, n2, f2⟩) = L n1 f1 ∧ dis (Pz.pt ⟨2, t, os, n1, f1, n2, f2⟩) = L n2 f2) := Lib.hid ⟨if_neg (show ¬ (2 : Nat) = 1 by decide), if_neg (show ¬ (2 : Nat) = 1 by decide)⟩
      have HB0 : Hid (bodP (Pz.pt ⟨2, t, os, n1, f1, n2, f2⟩) = encOs (L n1 f1) (L n2 f2) (os.map Opi.nat)) := Lib.hid (by unfold bodP; rw [if_neg (show ¬ (Pz.pt ⟨2, t, os, n1, f1, n2, f2⟩).kind = 0 by show ¬ (2 : Nat) = 0; decide), HL.out.1, HL.out.2]; rfl)
      have HR0 : Hid (R = opsE (L n1 f1) (L n2 f2) (os.map Opi.nat)) := Lib.hid (by rw [HRR.out, if_neg (by decide), HL.out.1, HL.out.2])
      have HER : Hid (err n1 f1 = 0 ∧ err n2 f2 = 0) := Lib.hid (by
        have h1 := HM.out.symm
        unfold wrM at h1
        rw [if_neg (by omega), if_pos rfl] at h1
        by_cases c : n1 < 257 ∨ 286 < n1 ∨ n2 < 1 ∨ 30 < n2
        · rw [if_pos c] at h1; cases h1
        · rw [if_neg c] at h1
          exact fitsI_err h1)
      have sW : stay W.heap.size W w2.drew := stay.of_below E2D.out.b
      have HNC := Lib.hid (newCodes_any (c1 := c1) (c2 := c2) (R1.out.stay sW) HER.out.1 (R2.out.stay sW) HER.out.2 E2D.out.b.size)
      have KPD := Lib.hid (KP.out.below (Below.refl _ w2).drew)
      clear hk sW
      go_wp2_with fail
      go_region_held3 (fun u => u.cell? ⟨Z, 2, none⟩ = some (.slice Ao No co) ∧ u.cell? ⟨Z, 3, none⟩ = some (.slice A1 n1 c1) ∧ u.cell? ⟨Z, 4, none⟩ = some (.slice A2 n2 c2))
        (first | exact ⟨a2, a3, a4⟩ | assumption)
        (first | (go_at_call 23; refine HNC.out.mono ?_; rintro e w3 ⟨xl, yl, xd, yd, rfl, q1, q2, q3, q4, q5, q6⟩; have Q1 := Lib.hid q1; have Q2 := Lib.hid q2; have Q3 := Lib.hid q3; have Q4 := Lib.hid q4; have Q5 := Lib.hid q5; have E3 := Lib.hid (E2D.out.below q6); have KP3 := Lib.hid (KPD.out.below q6); have p3 : w3.cell? ⟨Z, 2, none⟩ = some (.slice Ao No co) ∧ w3.cell? ⟨Z, 3, none⟩ = some (.slice A1 n1 c1) ∧ w3.cell? ⟨Z, 4, none⟩ = some (.slice A2 n2 c2) := ⟨KP3.out.cell 2, KP3.out.cell 3, KP3.out.cell 4⟩; clear q1 q2 q3 q4 q5 q6) | (go_at_call 35; refine (dyn_ops HOS.out HPT.out E3.out Q1.out Q2.out Q3.out HNO.out (by have h1 := HYB.out; have h2 := HZ.out; unfold ptB at h2; have e : (Pz.pt ⟨2, t, os, n1, f1, n2, f2⟩).ops = os.map Opi.nat := rfl; rw [e] at h2; omega)).mono ?_; rintro e w4 ⟨rfl, h5, h6⟩; have H5 := Lib.hid h5; have H6 := Lib.hid h6; have KP4 := Lib.hid (h5.blk KP3.out ⟨by decide, by decide, by decide⟩); have p4 : w4.cell? ⟨Z, 2, none⟩ = some (.slice Ao No co) ∧ w4.cell? ⟨Z, 3, none⟩ = some (.slice A1 n1 c1) ∧ w4.cell? ⟨Z, 4, none⟩ = some (.slice A2 n2 c2) := ⟨KP4.out.cell 2, KP4.out.cell 3, KP4.out.cell 4⟩; clear h5 h6))
      go_wp2
      go_ret
      have s3 := H5.out.below E3.out.b E3.out.b.size
      refine ⟨by rw [HR0.out]; rfl, s3, fun e => ?_⟩
      obtain ⟨v3, p3', o3, l3⟩ := H6.out (by rw [← HR0.out]; exact e)
      obtain ⟨⟨_, m1⟩, ⟨_, m2⟩⟩ := E3.out.p.words
      obtain ⟨⟨_, m3⟩, ⟨_, m4⟩⟩ := E2D.out.p.words
      have lt1 := m3.lt
      have lt2 := m4.lt
      have g4 := Q4.out
      have g5 := Q5.out
      refine ⟨v3, H5.out.blk E3.out.e ⟨by decide, by decide, by decide⟩, ⟨E3.out.p.a.only H5.out o3 (fun e => ?_), E3.out.p.b.only H5.out o3 (fun e => ?_), E3.out.p.ne, by rw [HXX.out, HB0.out]; exact p3'.w⟩, s3⟩
      · rcases e with e | e | e
        · exact own_not E3.out.p.w m1 ⟨by decide, by decide⟩ e
        · omega
        · omega
      · rcases e with e | e | e
        · exact own_not E3.out.p.w m2 ⟨by decide, by decide⟩ e
        · omega
        · omega
  · have hMb : (M != 0) = true := by simp [hM0]
    have HR0 : Hid (R = M) := Lib.hid (by
      rw [HR.out]
      unfold ptE
      dsimp only
      rw [← HM.out, if_pos hM0])
    have HM0 := Lib.hid hM0
    clear hM0
    go_wp2
    go_ret
    exact ⟨by rw [HR0.out]; rfl, E2.out.b, fun e => absurd (HR0.out.symm.trans e) HM0.out⟩

theorem okT_cons {b : List UInt8} {p : Pz} {r : List Pz} (h : (ptsT b (p :: r)).1 = 0) : (ptT b p).1 = 0 ∧ (ptsT (ptT b p).2 r).1 = 0 := by
  simp only [ptsT] at h
  by_cases h0 : (ptT b p).1 = 0
  · rw [if_pos h0] at h; exact ⟨h0, h⟩
  · rw [if_neg h0] at h; exact absurd h h0
theorem encPs_cons (p : Pt) (r : List Pt) (z : Nat) : encPs (p :: r) z = encP p r.isEmpty z ++ encPs r (z + bl (encP p r.isEmpty z)) := rfl
/-- What Encode answers. -/
def encS (l : List Pz) (S : ByteArray) : Prop := (encE l ≠ 0 → S = ⟨#[]⟩) ∧ (encE l = 0 → holds S (encPs (l.map Pz.pt) 0))
/-- Parts whose lists stay. -/
def ptrS (w : World) (A : Option Addr) (l : List Pz) : Prop := ∀ i p, l[i]? = some p → ∃ b off : Nat, A = some ⟨b, off, none⟩ ∧ b < w.heap.size ∧ part1 w b (off + i * 5) p ∧ ∀ A1 c1 A2 c2, w.cell? ⟨b, off + i * 5 + 3, none⟩ = some (.slice A1 p.n1 c1) → w.cell? ⟨b, off + i * 5 + 4, none⟩ = some (.slice A2 p.n2 c2) → rowS w.heap.size w A1 p.n1 p.f1 ∧ rowS w.heap.size w A2 p.n2 p.f2
theorem row_rowS {w : World} {A : Option Addr} {n : Nat} {f : Nat → Int} (h : row w A n f) : rowS w.heap.size w A n f := by
  refine ⟨h, ?_⟩
  by_cases h0 : n = 0
  · exact .inl h0
  · obtain ⟨b, off, e, hl, _⟩ := h 0 (by omega)
    exact .inr ⟨b, off, e, .inl hl⟩
set_option maxHeartbeats 4000000 in
set_option maxRecDepth 100000 in
theorem Encode_any {W : World} {A : Option Addr} {c : Nat} {l : List Pz} (h : ptr W A l) (hO : ordM W) (hc : ptsC l ≤ 1000000) (hl : l.length ≤ 1000000) (ho : ∀ p ∈ l, p.os.length ≤ 1000000) (hb : ptsB l ≤ 281474976000000) :
    Calls Tryd.prog 14 #[.slice A l.length c] W fun e w' => ∃ S, e = .returned (.tuple #[.string S, .int .i64 (encE l)]) ∧ encS l S ∧ Below W.heap.size W w' := by
  have HTX := Lib.hid (Text_any (c := c) h hc hl ho)
  obtain ⟨N, hN⟩ : ∃ N, N = l.length := ⟨_, rfl⟩
  rw [← hN] at HTX hl ⊢
  have HN := Lib.hid hN
  have H := Lib.hid h
  have HO := Lib.hid hO
  have HB := Lib.hid hb
  obtain ⟨R, hR⟩ : ∃ R, R = encE l := ⟨_, rfl⟩
  rw [← hR]
  have HR := Lib.hid hR
  obtain ⟨T, hT⟩ : ∃ T, T = textM l := ⟨_, rfl⟩
  rw [← hT] at HTX
  have HT := Lib.hid hT
  obtain ⟨te, tt⟩ := T
  dsimp only at HTX
  obtain ⟨TS, hTS⟩ : ∃ TS : ByteArray, TS = ⟨tt.toArray⟩ := ⟨_, rfl⟩
  rw [← hTS] at HTX
  clear h hO hc ho hb hN hR hT hTS
  by_cases h0 : te = 0
  · have hb0 : (te != 0) = false := by simp [h0]
    have HT0 : Hid ((ptsT [] l).1 = 0 ∧ l ≠ [] ∧ R = ptsE l) := Lib.hid (by
      have hne : l ≠ [] := fun e => by
        have := HT.out
        rw [e, textM_nil] at this
        injection this with this _
        rw [h0] at this; cases this
      have h1 := HT.out
      rw [textM_cons hne] at h1
      have h2 : (ptsT [] l).1 = 0 := by
        by_cases h3 : (ptsT [] l).1 = 0
        · exact h3
        · rw [if_neg h3] at h1
          injection h1 with h1 _
          rw [h0] at h1; exact h1.symm
      refine ⟨h2, hne, ?_⟩
      rw [HR.out]
      unfold encE
      rw [← HT.out, if_neg (by show ¬ te ≠ 0; rw [h0]; decide)])
    subst h0
    have HN0 : Hid (0 < N) := Lib.hid (by rw [HN.out]; exact List.length_pos_iff.2 HT0.out.2.1)
    obtain ⟨M, hM⟩ : ∃ M, M = N - 1 := ⟨_, rfl⟩
    have hsub : IntKind.i64.wrap ((N : Int) - 1) = (M : Int) := by rw [IntKind.wrap_i64]; have := HN0.out; omega
    have HMM := Lib.hid hM
    clear hM
    go_enter Tryd.func14, Tryd.ntmps14
    go_wp2_with fail
    refine HTX.out.mono ?_
    rintro e w1 ⟨rfl, b1⟩
    have B1 := Lib.hid b1
    clear b1
    go_wp2_with fail
    refine (Open_any w1).mono ?_
    rintro e w2 ⟨g, rfl, t2, hg, b2⟩
    have W2 : Hid (wrl W.heap.size w2 g (.slice none 0 0) []) := Lib.hid ⟨⟨[], ⟨t2.b, World.ownsRow_nil _ _ _ _, t2.lt, t2.len⟩, rfl⟩, by rw [hg]; exact B1.out.size⟩
    have B2 := Lib.hid (grows B1.out b2)
    clear t2 hg b2
    go_wp2_with fail
    refine (FixedLits_any w2).mono ?_
    rintro e w3 ⟨v3, rfl, i3, b3⟩
    obtain ⟨A3, c3, hv3⟩ := ints.form i3
    subst hv3
    obtain ⟨n3, hn3⟩ : ∃ n3, n3 = (ofN fixL).length := ⟨_, rfl⟩
    rw [← hn3] at i3 ⊢
    have L3 := Lib.hid (lst_rowS (B := W.heap.size) (lst_of i3))
    have B3 := Lib.hid (grows B2.out b3)
    have W3 := Lib.hid (W2.out.below b3)
    clear i3 b3 hn3
    go_wp2_with fail
    refine (FixedDists_any w3).mono ?_
    rintro e w4 ⟨v4, rfl, i4, b4⟩
    obtain ⟨A4, c4', hv4⟩ := ints.form i4
    subst hv4
    obtain ⟨n4, hn4⟩ : ∃ n4, n4 = (ofN fixD).length := ⟨_, rfl⟩
    rw [← hn4] at i4 ⊢
    have L4 := Lib.hid (lst_rowS (B := W.heap.size) (lst_of i4))
    have B4 := Lib.hid (grows B3.out b4)
    have W4 := Lib.hid (W3.out.below b4)
    have R3 := Lib.hid (L3.out.2.stay (stay.of_below b4))
    obtain rfl : n3 = 288 := by rw [L3.out.1, fixL_length]
    obtain rfl : n4 = 32 := by rw [L4.out.1, fixD_length]
    clear i4 b4 hn4
    have HNC := Lib.hid (newCodes_any (c1 := c3) (c2 := c4') R3.out err_fix.1 L4.out.2 err_fix.2 B4.out.size)
    rw [L_fix.1, L_fix.2] at HNC
    go_wp2_with fail
    refine HNC.out.mono ?_
    rintro e w5 ⟨cl, wl, cd, wd, rfl, q1, q2, q3, q4, q5, q6⟩
    have Q1 := Lib.hid q1
    have Q2 := Lib.hid q2
    have Q3 := Lib.hid q3
    have B5 := Lib.hid (grows B4.out q6)
    have W5 := Lib.hid (W4.out.below q6)
    clear q1 q2 q3 q4 q5 q6 HNC
    obtain ⟨w6, hw6⟩ : ∃ w6, w6 = w5.alloc (.cells #[.pointer (some ⟨g, 0, none⟩), .pointer (some ⟨cl, 0, none⟩), .pointer (some ⟨cd, 0, none⟩)] 63) := ⟨_, rfl⟩
    obtain ⟨e0, he0⟩ : ∃ e0, e0 = w5.heap.size := ⟨_, rfl⟩
    have B6 : Hid (Below w5.heap.size w5 w6) := Lib.hid (by rw [hw6]; exact below_alloc _ _)
    have E6 : Hid (enc W w6 e0 cl wl cd wd g (.slice none 0 0) []) := Lib.hid ⟨by rw [hw6, he0]; exact Blk.fresh _ _ _, ⟨Q1.out.below B6.out, Q2.out.below B6.out, Q3.out, W5.out.below B6.out⟩, grows B5.out B6.out⟩
    go_wp2_with fail
    rw [← hw6, ← he0]
    clear hw6 he0
    go_loopw [26] (fun s26 wr => ∃ (j : Nat) (v : Value) (y : List (Nat × Nat)) (b : List UInt8), s26 = .int .i64 (j : Int) ∧ j ≤ N ∧ Hid (enc W wr e0 cl wl cd wd g v y) ∧ Hid (encPs (l.map Pz.pt) 0 = y ++ encPs ((l.drop j).map Pz.pt) (bl y)) ∧ Hid (R = ptsE (l.drop j)) ∧ Hid (bl y + ptsB (l.drop j) ≤ 281474976000000) ∧ Hid ((ptsT b (l.drop j)).1 = 0)) (fun s26 _ => N - (intOf s26).toNat)
    case atStart => exact ⟨0, _, [], [], rfl, Nat.zero_le _, E6, Lib.hid (by rw [List.drop_zero]; rfl), Lib.hid (by rw [List.drop_zero]; exact HT0.out.2.2), Lib.hid (by rw [List.drop_zero]; have := HB.out; simpa [bl] using this), Lib.hid (by rw [List.drop_zero]; exact HT0.out.1)⟩
    case round =>
      obtain ⟨j, v, y, b, rfl, hj, HE, HY, HRR, HBB, HTT⟩ := hrel
      by_cases hjn : j < N
      · have hjn' : (j : Int) < (N : Int) := by omega
        have hj0 : (0 : Int) ≤ (j : Int) := by omega
        obtain ⟨p, hpj⟩ : ∃ p, l[j]? = some p := ⟨_, List.getElem?_eq_getElem (by rw [← HN.out]; exact hjn)⟩
        have hdr := drop_cons hpj
        obtain ⟨bb, off, hA, hbb, hp⟩ := H.out j p hpj
        subst hA
        obtain ⟨Ao, co, eo, ro⟩ := hp.os
        obtain ⟨A1, q1, e1, r1, m1⟩ := hp.l1
        obtain ⟨A2, q2, e2, r2, m2⟩ := hp.l2
        have hk : ∀ i, wr.cell? ⟨bb, i, none⟩ = W.cell? ⟨bb, i, none⟩ := fun i => HE.out.b.cell (p := ⟨bb, i, none⟩) hbb
        have g0 := (hk _).trans hp.c0
        have g1 := (hk _).trans hp.c1
        have g2 := (hk _).trans eo
        have g3 := (hk _).trans e1
        have g4 := (hk _).trans e2
        have HT1 := HTT.out
        rw [hdr] at HT1
        have HT2 := okT_cons HT1
        have HTN := Lib.hid HT2.2
        obtain ⟨fin, hfin⟩ : ∃ fin : Bool, fin = ((l.drop (j + 1)).map Pz.pt).isEmpty := ⟨_, rfl⟩
        have hfb : ((j : Int) == (M : Int)) = fin := by
          rw [hfin]
          have h1 := HN.out
          have h2 := HMM.out
          by_cases hx : j = M
          · rw [List.drop_eq_nil_of_le (by omega)]
            simp; omega
          · have hne : l.drop (j + 1) ≠ [] := fun e => by
              have := congrArg List.length e
              rw [List.length_drop] at this
              simp at this; omega
            have e1 : ((l.drop (j + 1)).map Pz.pt).isEmpty = false := by
              cases hq : l.drop (j + 1)
              · exact absurd hq hne
              · rfl
            rw [e1]; simp; omega
        have HYS : Hid (encPs (l.map Pz.pt) 0 = (y ++ encP p.pt fin (bl y)) ++ encPs ((l.drop (j + 1)).map Pz.pt) (bl (y ++ encP p.pt fin (bl y)))) := Lib.hid (by
          rw [HY.out, hdr, List.map_cons, encPs_cons, ← hfin, List.append_assoc, bl_append])
        have HRS : Hid (R = if ptE p = 0 then ptsE (l.drop (j + 1)) else ptE p) := Lib.hid (by rw [HRR.out, hdr, ptsE_cons])
        have HBS : Hid (bl y + ptB p + ptsB (l.drop (j + 1)) ≤ 281474976000000) := Lib.hid (by have h1 := HBB.out; rw [hdr] at h1; simp only [ptsB] at h1; omega)
        obtain ⟨w7, hw7⟩ : ∃ w7, w7 = wr.alloc (.cells #[.int .i64 p.k, .string p.t, .slice Ao p.os.length co, .slice A1 p.n1 q1, .slice A2 p.n2 q2] 38) := ⟨_, rfl⟩
        have B7 : Hid (Below wr.heap.size wr w7) := Lib.hid (by rw [hw7]; exact below_alloc _ _)
        have HP := Lib.hid (part_any (fin := fin) (co := co) (c1 := q1) (c2 := q2) (HE.out.below B7.out) HO.out ro (row_rowS r1) (row_rowS r2) m1 m2 HT2.1 (by have := HBS.out; omega))
        have HJN := Lib.hid hjn
        have HOKB : Hid (ptE p = 0 → bl (encP p.pt fin (bl y)) ≤ ptB p) := Lib.hid (fun e => encP_bl (part_okP HT2.1 e).1 fin (bl y))
        obtain ⟨er, her⟩ : ∃ er, er = ptE p := ⟨_, rfl⟩
        rw [← her] at HRS HP HOKB
        have HRZ : Hid ((er = 0 → R = ptsE (l.drop (j + 1))) ∧ (er ≠ 0 → R = er)) := Lib.hid ⟨fun e => by rw [HRS.out, if_pos e], fun e => by rw [HRS.out, if_neg e]⟩
        obtain ⟨yn, hyn⟩ : ∃ yn, yn = y ++ encP p.pt fin (bl y) := ⟨_, rfl⟩
        rw [← hyn] at HYS HP
        have HYB : Hid (er = 0 → bl yn + ptsB (l.drop (j + 1)) ≤ 281474976000000) := Lib.hid (fun e => by
          have h1 := HOKB.out e
          have h2 := HBS.out
          rw [hyn, bl_append]; omega)
        obtain ⟨bn', hbn⟩ : ∃ bn', bn' = (ptT b p).2 := ⟨_, rfl⟩
        rw [← hbn] at HTN
        clear hp hk eo e1 e2 ro r1 r2 hpj hdr hbb HT1 HT2 HRR HBB HTT HY HRS HBS hfin her hyn hbn hjn HOKB
        obtain ⟨pk', pt, pos, pn1, pf1, pn2, pf2⟩ := p
        dsimp only at g0 g1 g2 g3 g4 HP hw7
        obtain ⟨No, hNo⟩ : ∃ No, No = pos.length := ⟨_, rfl⟩
        rw [← hNo] at g2 HP hw7
        clear hNo
        go_wp2_with fail
        rw [← hw7]
        clear hw7 g0 g1 g2 g3 g4
        refine HP.out.mono ?_
        rintro e w8 ⟨rfl, b8, h8⟩
        have B8 := Lib.hid b8
        have H8 := Lib.hid h8
        clear b8 h8
        by_cases hz : er = 0
        · have hzb : (er != 0) = false := by simp [hz]
          obtain ⟨v8, e8⟩ := H8.out hz
          have E8 := Lib.hid e8
          have HZ := Lib.hid hz
          clear hz e8
          go_wp2
          go_roundw
          case rel => exact ⟨j + 1, v8, yn, bn', by go_num, by have := HJN.out; omega, E8, HYS, Lib.hid (HRZ.out.1 HZ.out), Lib.hid (HYB.out HZ.out), HTN⟩
          case measure => have := HJN.out; simp [intOf]; omega
        · have hzb : (er != 0) = true := by simp [hz]
          have HZ := Lib.hid (HRZ.out.2 hz)
          have HZ2 := Lib.hid hz
          clear hz
          go_wp2
          go_ret2
          exact ⟨⟨#[]⟩, by rw [HZ.out]; rfl, ⟨fun _ => rfl, fun e => absurd ((HZ.out.symm.trans HR.out).trans e) HZ2.out⟩, B8.out⟩
      · have hjn' : ¬ (j : Int) < (N : Int) := by omega
        have hdn : l.drop j = [] := List.drop_eq_nil_of_le (by rw [← HN.out]; omega)
        have HR0 : Hid (R = 0) := Lib.hid (by rw [HRR.out, hdn]; rfl)
        have HY0 : Hid (encPs (l.map Pz.pt) 0 = y) := Lib.hid (by rw [HY.out, hdn]; exact List.append_nil y)
        have r0 : wr.cell? ⟨e0, 0, none⟩ = some (.pointer (some ⟨g, 0, none⟩)) := HE.out.e.cell 0
        obtain ⟨bs, t, hbs⟩ := HE.out.p.w.t
        have HTT2 := Lib.hid (Text_any (w := wr) t)
        have HBS := Lib.hid hbs
        have HTL := Lib.hid t.len
        clear hjn hdn t hbs
        go_wp2_with fail
        refine HTT2.out.mono ?_
        rintro e w' ⟨rfl, rfl⟩
        go_wp2
        go_ret2
        refine ⟨⟨bs.toArray⟩, by rw [HR0.out]; rfl, ⟨fun e => absurd (HR.out.symm.trans HR0.out) e, fun _ => ⟨?_, ?_⟩⟩, HE.out.b⟩
        · rw [HY0.out]; exact HBS.out
        · rw [HY0.out]; show Array.size _ = _; rw [List.size_toArray]; exact HTL.out
  · have hb0 : (te != 0) = true := by simp [h0]
    have HRT : Hid (R = te) := Lib.hid (by
      rw [HR.out]
      unfold encE
      rw [← HT.out, if_pos h0])
    have H0 := Lib.hid h0
    clear h0
    go_enter Tryd.func14, Tryd.ntmps14
    go_wp2_with fail
    refine HTX.out.mono ?_
    rintro e w1 ⟨rfl, b1⟩
    go_wp2
    go_ret2
    exact ⟨⟨#[]⟩, by rw [HRT.out]; rfl, ⟨fun _ => rfl, fun e => absurd ((HRT.out.symm.trans HR.out).trans e) H0.out⟩, b1⟩
end Go.Proofs.YtnkninjdpgpkmaaDoor.Gz
namespace Go.Proofs.YtnkninjdpgpkmaaDoor.Ht
open Go.RowKit Go.Proofs.YtnkninjdpgpkmaaDoor.Vm Go.Proofs.YtnkninjdpgpkmaaDoor.Vo Go.Proofs.YtnkninjdpgpkmaaDoor.Bm Go.Proofs.YtnkninjdpgpkmaaDoor.Bw Go.Proofs.YtnkninjdpgpkmaaDoor.Na Go.Proofs.YtnkninjdpgpkmaaDoor.Ke Go.Proofs.YtnkninjdpgpkmaaDoor.Nm Go.Proofs.YtnkninjdpgpkmaaDoor.Ky Go.Proofs.YtnkninjdpgpkmaaDoor.Kw Go.Proofs.YtnkninjdpgpkmaaDoor.Gm Go.Proofs.YtnkninjdpgpkmaaDoor.Ga Go.Proofs.YtnkninjdpgpkmaaDoor.Gr Go.Proofs.YtnkninjdpgpkmaaDoor.Gp Go.Proofs.YtnkninjdpgpkmaaDoor.Hm Go.Proofs.YtnkninjdpgpkmaaDoor.Gt Go.Proofs.YtnkninjdpgpkmaaDoor.Gz Go.Proofs.YtnkninjdpgpkmaaDoor.Ho Go.Proofs.YtnkninjdpgpkmaaDoor.Hp Go.Proofs.YtnkninjdpgpkmaaDoor.Hs

/-- The one part. -/
def k1 : Pz := ⟨1, ⟨#[]⟩, [⟨97, 0, 0⟩], 0, fun _ => 0, 0, fun _ => 0⟩
theorem k1_text : textM [k1] = (0, [97]) := by decide +kernel
theorem k1_enc : encE [k1] = 0 := by decide +kernel
theorem k1_holds : holds ⟨#[75, 4, 0]⟩ (encPs ([k1].map Pz.pt) 0) := ⟨by decide +kernel, by decide +kernel⟩
theorem opx_eq {a b : Opx} (h1 : a.x = b.x) (h2 : a.n = b.n) (h3 : a.d = b.d) : a = b := by cases a; cases b; simp_all
theorem aaaa : opsM [97, 97, 97, 97] 0 = [⟨97, 0, 0⟩, ⟨0, 3, 1⟩] := by
  rw [opsM_at (by decide)]
  rw [show bo (([97, 97, 97, 97] : List UInt8).getD 0 0) (best [97, 97, 97, 97] 0 (min 256 0)) = ⟨97, 0, 0⟩ from opx_eq (by decide +kernel) (by decide +kernel) (by decide +kernel)]
  rw [show (0 + if (⟨97, 0, 0⟩ : Opx).n = 0 then 1 else (⟨97, 0, 0⟩ : Opx).n) = 1 by decide +kernel]
  rw [opsM_at (by decide)]
  rw [show bo (([97, 97, 97, 97] : List UInt8).getD 1 0) (best [97, 97, 97, 97] 1 (min 256 1)) = ⟨0, 3, 1⟩ from opx_eq (by decide +kernel) (by decide +kernel) (by decide +kernel)]
  rw [show (1 + if (⟨0, 3, 1⟩ : Opx).n = 0 then 1 else (⟨0, 3, 1⟩ : Opx).n) = 4 by decide +kernel]
  rw [opsM_end (by decide)]
/-- The part in memory. -/
theorem k1_ptr {w1 w2 : World} {g1 g2 : Nat} (h1 : Blk w1 g1 41 #[.int .u8 97, .int .i64 0, .int .i64 0]) (b2 : Below w1.heap.size w1 w2) (h2 : Blk w2 g2 38 #[.int .i64 1, .string ⟨#[]⟩, .slice (some ⟨g1, 0, none⟩) 1 1, .slice none 0 0, .slice none 0 0]) : ptr w2 (some ⟨g2, 0, none⟩) [k1] := by
  intro i p hi
  match i, hi with
  | 0, hi =>
    obtain rfl : k1 = p := by simpa using hi
    refine ⟨g2, 0, rfl, h2.lt, ?_⟩
    have k := h1.below b2
    refine ⟨⟨by decide, by decide⟩, h2.cell 0, h2.cell 1, ⟨_, _, h2.cell 2, fun i o ho => ?_⟩, ⟨none, 0, h2.cell 3, row_none _ _ _, by decide⟩, ⟨none, 0, h2.cell 4, row_none _ _ _, by decide⟩⟩
    match i, ho with
    | 0, ho =>
      obtain rfl : (⟨97, 0, 0⟩ : Opi) = o := by
        have : k1.os[0]? = some (⟨97, 0, 0⟩ : Opi) := rfl
        exact Option.some.inj (this.symm.trans ho)
      exact ⟨⟨by decide, by decide⟩, ⟨by decide, by decide⟩, g1, 0, rfl, k.lt, k.cell 0, k.cell 1, k.cell 2⟩
    | i + 1, ho => exact absurd ho (by simp [k1])
  | i + 1, hi => simp at hi

set_option maxHeartbeats 2000000 in
set_option maxRecDepth 100000 in
theorem known_any {w : World} (hO : ordM w) : Calls Tryd.prog 5 #[] w fun e w' => e = .returned (.bool true) ∧ Below w.heap.size w w' := by
  obtain ⟨w1, hw1⟩ : ∃ w1, w1 = w.alloc (.cells #[.int .u8 97, .int .i64 0, .int .i64 0] 41) := ⟨_, rfl⟩
  obtain ⟨w2, hw2⟩ : ∃ w2, w2 = w1.alloc (.cells #[.int .i64 1, .string ⟨#[]⟩, .slice (some ⟨w.heap.size, 0, none⟩) 1 1, .slice none 0 0, .slice none 0 0] 38) := ⟨_, rfl⟩
  have b1 : Below w.heap.size w w1 := by rw [hw1]; exact below_alloc _ _
  have b2 : Below w1.heap.size w1 w2 := by rw [hw2]; exact below_alloc _ _
  have k1' : Blk w1 w.heap.size 41 #[.int .u8 97, .int .i64 0, .int .i64 0] := by rw [hw1]; exact Blk.fresh _ _ _
  have k2' : Blk w2 w1.heap.size 38 #[.int .i64 1, .string ⟨#[]⟩, .slice (some ⟨w.heap.size, 0, none⟩) 1 1, .slice none 0 0, .slice none 0 0] := by rw [hw2]; exact Blk.fresh _ _ _
  have P2 := Lib.hid (k1_ptr k1' b2 k2')
  have B2 := Lib.hid (grows b1 b2)
  have HO := Lib.hid hO
  obtain ⟨g2, hg2⟩ : ∃ g2, g2 = w1.heap.size := ⟨_, rfl⟩
  have hg2' : g2 = w.heap.size + 1 := by rw [hg2, hw1, size_alloc]
  rw [← hg2] at P2
  have ho : ∀ p ∈ [k1], p.os.length ≤ 1000000 := by
    intro p hp
    simp at hp
    subst hp
    decide
  have HEN := Lib.hid (Encode_any (c := 1) P2.out (hO.below B2.out) (by decide +kernel) (by decide) ho (by decide +kernel))
  rw [k1_enc] at HEN
  have HTX := Lib.hid (fun u (hu : Below w2.heap.size w2 u) => Text_any (c := 1) (P2.out.below hu) (by decide +kernel) (by decide) ho)
  rw [k1_text] at HTX
  have HOP := Lib.hid (fun u => Ops_any (s := ⟨#[97, 97, 97, 97]⟩) (by decide) u)
  rw [show (⟨#[97, 97, 97, 97]⟩ : ByteArray).data.toList = [97, 97, 97, 97] from rfl, aaaa] at HOP
  have HTN := Lib.hid (fun u => Text_any (w := u) (A := none) (c := 0) (l := []) (fun i p h => by simp at h) (by decide) (by decide) (fun p hp => by cases hp))
  have HSP := Lib.hid (fun u => Split_any (s := ⟨#[]⟩) (z := 0) (by decide) u)
  clear b1 b2 k1' k2' hO hg2 ho
  go_enter Tryd.func5, Tryd.ntmps5
  go_wp2_with fail
  rw [← hw1]
  rw [← hw2]
  rw [← hg2']
  clear hw1 hw2 hg2'
  refine HEN.out.mono ?_
  rintro e w3 ⟨S, rfl, hS, b3⟩
  obtain rfl : S = ⟨#[75, 4, 0]⟩ := holds_inj (hS.2 k1_enc) k1_holds
  have B23 := Lib.hid b3
  clear hS b3
  go_wp2_with fail
  refine (HTX.out _ B23.out).mono ?_
  rintro e w4 ⟨rfl, b4⟩
  have B24 := Lib.hid (grows B23.out b4)
  clear b4
  go_wp2_with fail
  refine (HOP.out _).mono ?_
  rintro e w5 ⟨A, n, cap, rfl, o5, l5, b5⟩
  have B25 := Lib.hid (grows B24.out b5)
  obtain ⟨A', c', e5⟩ := o5.form
  obtain rfl : n = 2 := by injection e5
  have r5 := o5.read l5
  obtain ⟨_, _, g, off, rfl, hg, x0, x1, x2⟩ := r5 1 ⟨0, 3, 1⟩ rfl
  have R5 := Lib.hid (show Hid (g < w5.heap.size) from Lib.hid hg)
  have X0 := Lib.hid x0
  have X1 := Lib.hid x1
  have X2 := Lib.hid x2
  obtain rfl : off = 0 := by
    rcases o5.2 with ⟨h0, _⟩ | ⟨g', cap', cur, e1, _⟩
    · injection h0 with h0; cases h0
    · injection e1 with e1; injection e1 with e1; injection e1
  clear o5 l5 b5 r5 hg x0 x1 x2 e5
  go_wp2_with fail
  refine (HTN.out _).mono ?_
  rintro e w6 ⟨rfl, b6⟩
  have B26 := Lib.hid (grows B25.out b6)
  have x0 : w6.cell? ⟨g, 3, none⟩ = some (.int .u8 0) := (b6.cell (p := ⟨g, 3, none⟩) R5.out.out).trans (by have h := X0.out; rw [show 0 + 1 * 3 = 3 from rfl] at h; exact h)
  have x1 : w6.cell? ⟨g, 4, none⟩ = some (.int .i64 3) := (b6.cell (p := ⟨g, 4, none⟩) R5.out.out).trans (by have h := X1.out; rw [show 0 + 1 * 3 + 1 = 4 from rfl] at h; exact h)
  have x2 : w6.cell? ⟨g, 5, none⟩ = some (.int .i64 1) := (b6.cell (p := ⟨g, 5, none⟩) R5.out.out).trans (by have h := X2.out; rw [show 0 + 1 * 3 + 2 = 5 from rfl] at h; exact h)
  clear b6 X0 X1 X2 R5
  rw [show (⟨(textM []).2.toArray⟩ : ByteArray) = ⟨#[]⟩ from rfl, show (textM []).1 = 17 from rfl]
  go_wp2_with fail
  refine (HSP.out _).mono ?_
  rintro e w7 ⟨A7, c7, L, rfl, hL, _, b7⟩
  have hl : L.length = 1 := by
    have := congrArg List.length hL
    rw [List.length_map] at this
    rw [this]; decide +kernel
  have B27 := Lib.hid (grows B26.out b7)
  clear hL b7
  go_wp2
  go_ret
  exact ⟨rfl, grows B2.out B27.out⟩
end Go.Proofs.YtnkninjdpgpkmaaDoor.Ht
namespace Go.Proofs.YtnkninjdpgpkmaaDoor.Hq
open Go.RowKit Go.PlainAid Go.Proofs.YtnkninjdpgpkmaaDoor.Vm Go.Proofs.YtnkninjdpgpkmaaDoor.Vo Go.Proofs.YtnkninjdpgpkmaaDoor.Bm Go.Proofs.YtnkninjdpgpkmaaDoor.Bw Go.Proofs.YtnkninjdpgpkmaaDoor.Na Go.Proofs.YtnkninjdpgpkmaaDoor.Nm Go.Proofs.YtnkninjdpgpkmaaDoor.Gm Go.Proofs.YtnkninjdpgpkmaaDoor.Ga Go.Proofs.YtnkninjdpgpkmaaDoor.Gr Go.Proofs.YtnkninjdpgpkmaaDoor.Gp Go.Proofs.YtnkninjdpgpkmaaDoor.Gt Go.Proofs.YtnkninjdpgpkmaaDoor.Hm Go.Proofs.YtnkninjdpgpkmaaDoor.Ho Go.Proofs.YtnkninjdpgpkmaaDoor.Hp

set_option maxHeartbeats 1000000 in
set_option maxRecDepth 100000 in
theorem run_any {s : ByteArray} {a d : Nat} (hd : d ≤ a) (ha : a ≤ s.size) (hs : s.size ≤ 1000000000) (w : World) :
    Calls Tryd.prog 18 #[.string s, .int .i64 (a : Int), .int .i64 (d : Int)] w fun e w' => e = .returned (.int .i64 (run s.data.toList a d : Nat)) ∧ Below w.heap.size w w' := by
  obtain ⟨R, hR⟩ : ∃ R, R = run s.data.toList a d := ⟨_, rfl⟩
  rw [← hR]
  have HR := Lib.hid hR
  clear hR
  go_enter Tryd.func18, Tryd.ntmps18
  go_wp2
  go_loopw [7] (fun s7 wr => ∃ n : Nat, s7 = .int .i64 (n : Int) ∧ n ≤ 258 ∧ a + n ≤ s.size ∧ Hid (R = runF s.data.toList a d (258 - n) n) ∧ Hid (Below w.heap.size w wr)) (fun s7 _ => 258 - (intOf s7).toNat)
  case atStart => exact ⟨0, rfl, Nat.zero_le _, ha, Lib.hid HR.out, Lib.hid (Below.refl _ _)⟩
  case round =>
    obtain ⟨n, rfl, hn, hna, HN, HB⟩ := hrel
    obtain ⟨q, hq⟩ : ∃ q, q = a + n := ⟨_, rfl⟩
    obtain ⟨p, hp⟩ : ∃ p, p = a + n - d := ⟨_, rfl⟩
    have e2 : IntKind.i64.wrap ((a : Int) + (n : Int)) = (q : Int) := by rw [IntKind.wrap_i64]; omega
    have e1 : IntKind.i64.wrap ((q : Int) - (d : Int)) = (p : Int) := by rw [IntKind.wrap_i64]; omega
    by_cases hqs : q < s.size
    · have hqs' : (q : Int) < (s.size : Int) := by omega
      by_cases hn8 : n < 258
      · have hn8' : (n : Int) < 258 := by omega
        have p0 : (0 : Int) ≤ (p : Int) := by omega
        have q0 : (0 : Int) ≤ (q : Int) := by omega
        have p1 : (p : Int) < (s.size : Int) := by omega
        have hbe := bt_iff (s := s) (i := q) (j := p) (by omega) (by omega)
        have hb := get_bt s
        have HPQ : Hid (p = a + n - d ∧ q = a + n) := Lib.hid ⟨hp, hq⟩
        have HN8 := Lib.hid hn8
        have HLA : Hid (a + n < s.data.toList.length) := Lib.hid (by rw [sz]; omega)
        have HQS := Lib.hid hqs
        clear hp hq hn8
        by_cases hx : bt s q = bt s p
        · have hxb : (bt s q == bt s p) = true := by simp [hx]
          have HE := Lib.hid (hbe.1 hx)
          clear hx hbe
          go_wp2_with fail
          go_quiet (fail)
          clear e1 e2 hb hxb
          go_wp2
          go_roundw
          case rel =>
            refine ⟨n + 1, by go_num, by have := HN8.out; omega, by have := HPQ.out.2; have := HQS.out; omega, Lib.hid ?_, Lib.hid (grows HB.out (below_draws _ _))⟩
            have h1 := HN8.out
            rw [HN.out, show 258 - n = (258 - (n + 1)) + 1 by omega]
            exact runF_next ⟨HLA.out, h1, by rw [← HPQ.out.2, HE.out, HPQ.out.1, HPQ.out.2]⟩
          case measure => have := HN8.out; simp [intOf]; omega
        · have hxb : (bt s q == bt s p) = false := by simp [hx]
          have HE : Hid (¬ s.data.toList[q]? = s.data.toList[p]?) := Lib.hid (fun e => hx (hbe.2 e))
          clear hx hbe
          go_wp2_with fail
          go_quiet (fail)
          clear e1 e2 hb hxb
          go_wp2
          go_ret
          have e : R = n := by
            rw [HN.out]
            exact runF_stop (fun h => HE.out (by rw [HPQ.out.1, HPQ.out.2]; exact h.2.2))
          exact ⟨by rw [e]; rfl, grows HB.out (below_draws _ _)⟩
      · have HE : Hid (R = n) := Lib.hid (by rw [HN.out]; exact runF_stop (fun h => hn8 h.2.1))
        have d1 : decide ((q : Int) < (s.size : Int)) = true := by simp; omega
        have d1b : decide ((a : Int) + (n : Int) < (s.size : Int)) = true := by simp; omega
        have d1n : decide (a + n < s.size) = true := by simp; omega
        have d1p : (a : Int) + (n : Int) < (s.size : Int) := by omega
        have d2 : decide ((n : Int) < 258) = false := by simp; omega
        have d2n : decide (n < 258) = false := by simp; omega
        have hn8' : ¬ (n : Int) < 258 := by omega
        have hn8'' : 258 ≤ n := by omega
        clear hn8 hqs
        go_wp2_with fail
        go_quiet (fail)
        go_wp2
        go_ret
        exact ⟨by rw [HE.out]; rfl, grows HB.out (below_draws _ _)⟩
    · have HE : Hid (R = n) := Lib.hid (by rw [HN.out]; exact runF_stop (fun h => by have h2 := h.1; rw [sz] at h2; omega))
      have d1 : decide ((q : Int) < (s.size : Int)) = false := by simp; omega
      have d1b : decide ((a : Int) + (n : Int) < (s.size : Int)) = false := by simp; omega
      have d1n : decide (a + n < s.size) = false := by simp; omega
      have d1p : ¬ (a : Int) + (n : Int) < (s.size : Int) := by omega
      have hqs' : ¬ (q : Int) < (s.size : Int) := by omega
      clear hqs
      go_wp2_with fail
      go_quiet (fail)
      go_wp2
      go_ret
      exact ⟨by rw [HE.out]; rfl, grows HB.out (below_draws _ _)⟩

set_option maxHeartbeats 4000000 in
set_option maxRecDepth 100000 in
theorem rOps_any {s : ByteArray} (hs : s.size ≤ 1000000) (w : World) :
    Calls Tryd.prog 8 #[.string s] w fun e w' => ∃ A n cap, e = .returned (.slice A n cap) ∧ opo w.heap.size w' (.slice A n cap) (opsM s.data.toList 0) ∧ (∀ o ∈ opsM s.data.toList 0, o.n ≤ 1000000000 ∧ o.d ≤ 1000000000) ∧ Below w.heap.size w w' := by
  obtain ⟨l, hl⟩ : ∃ l, l = s.data.toList := ⟨_, rfl⟩
  have hsl : l.length = s.size := by rw [hl]; exact sz s
  rw [← hl]
  have HL := Lib.hid hl
  have HSL := Lib.hid hsl
  obtain ⟨i0, hi, hz0, hz1, hz2⟩ := info_parts infoOp
  obtain ⟨M, hM⟩ : ∃ M, M = opsM l 0 := ⟨_, rfl⟩
  rw [← hM]
  have HM := Lib.hid hM
  clear hl hsl hM
  go_enter Tryd.func8, Tryd.ntmps8
  go_wp2
  go_loopw [3, 4] (fun s3 s4 wr => ∃ (a n cap : Nat) (A : Option Addr) (pre : List Opx), s3 = .slice A n cap ∧ s4 = .int .i64 (a : Int) ∧ a ≤ s.size ∧ Hid (n = pre.length ∧ n ≤ a) ∧ Hid (opo w.heap.size wr (.slice A n cap) pre) ∧ Hid (M = pre ++ opsM l a) ∧ Hid (∀ o ∈ pre, o.n ≤ 1000000000 ∧ o.d ≤ 1000000000) ∧ Hid (Below w.heap.size w wr)) (fun _ s4 _ => s.size - (intOf s4).toNat)
  case atStart => exact ⟨0, 0, 0, none, [], rfl, rfl, Nat.zero_le _, Lib.hid ⟨rfl, Nat.le_refl _⟩, Lib.hid (opo_nil _ _), Lib.hid HM.out, Lib.hid (fun o h => by cases h), Lib.hid (Below.refl _ _)⟩
  case round =>
    obtain ⟨a, n, cap, A, pre, rfl, rfl, ha, HN, HO, HMM, HLE, HB⟩ := hrel
    by_cases han : a < s.size
    · have han' : (a : Int) < (s.size : Int) := by omega
      have ha0 : (0 : Int) ≤ (a : Int) := by omega
      have HAN := Lib.hid han
      have HRU := Lib.hid (fun u d (hd : d ≤ a) => run_any (s := s) (a := a) (d := d) hd ha (by omega) u)
      rw [← HL.out] at HRU
      obtain ⟨U, hU⟩ : ∃ U, U = w.heap.size := ⟨_, rfl⟩
      have hmn : Hid (min 256 a ≤ 256 ∧ min 256 a ≤ a) := Lib.hid (by omega)
      clear han
      go_wp2
      go_loopw [5, 6, 7] (fun s5 s6 s7 wx => ∃ (d bn bd : Nat), s5 = .int .i64 (bn : Int) ∧ s6 = .int .i64 (bd : Int) ∧ s7 = .int .i64 ((d + 1 : Nat) : Int) ∧ d ≤ 256 ∧ d ≤ a ∧ Hid ((bn, bd) = best l a d) ∧ Hid (opo w.heap.size wx (.slice A n cap) pre) ∧ Hid (Below w.heap.size w wx)) (fun _ _ s7 _ => 258 - (intOf s7).toNat)
      case atStart => exact ⟨0, 0, 0, rfl, rfl, rfl, by omega, by omega, Lib.hid (best_zero l a).symm, HO, HB⟩
      case round =>
        obtain ⟨d, bn, bd, rfl, rfl, rfl, hd1, hd2, HBD, HO2, HB2⟩ := hrel
        obtain ⟨dd, hdd⟩ : ∃ dd, dd = d + 1 := ⟨_, rfl⟩
        rw [← hdd]
        by_cases hgo : dd ≤ 256 ∧ dd ≤ a
        · have g1 : (dd : Int) ≤ 256 := by omega
          have g2 : (dd : Int) ≤ (a : Int) := by omega
          have HR1 := Lib.hid (HRU.out wr dd hgo.2)
          obtain ⟨r, hr⟩ : ∃ r, r = run l a dd := ⟨_, rfl⟩
          rw [← hr] at HR1
          have HRR := Lib.hid hr
          have HGO := Lib.hid hgo
          have HDD := Lib.hid hdd
          clear hgo hr hdd
          go_wp2_with fail
          refine HR1.out.mono ?_
          rintro e w2 ⟨rfl, b2⟩
          have O2 := Lib.hid (HO2.out.below b2)
          have B2 := Lib.hid (grows HB2.out b2)
          clear b2 HR1
          by_cases hlt : bn < r
          · have hlt' : (bn : Int) < (r : Int) := by omega
            have HNX : Hid ((r, dd) = best l a dd) := Lib.hid (by
              have h1 := HBD.out
              rw [HDD.out] at HRR ⊢
              rw [best_next (by rw [← h1, ← HRR.out]; exact hlt), ← HRR.out])
            clear hlt
            go_wp2
            go_roundw
            case rel => exact ⟨dd, r, dd, rfl, rfl, by go_num, by have := HGO.out; omega, by have := HGO.out; omega, HNX, O2, B2⟩
            case measure => have h1 := HGO.out; have h2 := HDD.out; simp [intOf]; omega
          · have hlt' : ¬ (bn : Int) < (r : Int) := by omega
            have HNX : Hid ((bn, bd) = best l a dd) := Lib.hid (by
              have h1 := HBD.out
              rw [HDD.out] at HRR ⊢
              rw [best_stay (by rw [← h1, ← HRR.out]; exact hlt), ← h1])
            clear hlt
            go_wp2
            go_roundw
            case rel => exact ⟨dd, bn, bd, rfl, rfl, by go_num, by have := HGO.out; omega, by have := HGO.out; omega, HNX, O2, B2⟩
            case measure => have h1 := HGO.out; have h2 := HDD.out; simp [intOf]; omega
        · have HBE : Hid ((bn, bd) = best l a (min 256 a)) := Lib.hid (by
            rw [HBD.out]
            rw [show min 256 a = d by omega])
          have hfa := best_facts (s := l) (a := a) (by rw [HSL.out]; exact ha) (min 256 a)
          rw [← HBE.out] at hfa
          have hle := bo_le (l := l) (a := a) (by rw [HSL.out]; exact ha) (l.getD a 0)
          have hat := opsM_at (l := l) (a := a) (by rw [HSL.out]; exact HAN.out)
          rw [← HBE.out] at hle hat
          have HAT := Lib.hid hat
          have HOL := Lib.hid hle
          have hbn : bn ≤ 258 := hfa.1
          have HFA := Lib.hid hfa.2.2.1
          have HHO := Lib.hid hgo
          clear hle hat hfa
          rcases (show ¬ (dd : Int) ≤ 256 ∨ ((dd : Int) ≤ 256 ∧ ¬ (dd : Int) ≤ (a : Int)) by omega) with g1 | ⟨g1, g2⟩
          all_goals
            clear hgo
            by_cases h3 : 3 ≤ bn
            · have h3' : 3 ≤ (bn : Int) := by omega
              obtain ⟨o, ho⟩ : ∃ o, o = bo (l.getD a 0) (bn, bd) := ⟨_, rfl⟩
              have hoc : (oc o).toList = [.int .u8 0, .int .i64 (bn : Int), .int .i64 (bd : Int)] := by rw [ho]; unfold bo oc; rw [if_pos h3]; rfl
              have hon : o.n = bn := by rw [ho, bo_n, if_pos h3]
              have hstep : a + (if o.n = 0 then 1 else o.n) = a + bn := by rw [ho]; unfold bo; rw [if_pos h3]; show a + (if bn = 0 then 1 else bn) = _; rw [if_neg (by omega)]
              have HAT2 : Hid (opsM l a = o :: opsM l (a + bn)) := Lib.hid (by rw [← hstep, ho]; exact HAT.out)
              have HOL2 : Hid (o.n ≤ 258 ∧ o.d ≤ 256 ∧ a + bn ≤ s.size) := Lib.hid (by have h1 := HOL.out; rw [← ho] at h1; have h2 := HSL.out; have h3 := HAN.out; omega)
              have HOC := Lib.hid hoc
              have hal := HOL2.out.2.2
              obtain ⟨w4, hw4⟩ : ∃ w4, w4 = wr.alloc (.cells #[.int .u8 0, .int .i64 (bn : Int), .int .i64 (bd : Int)] 41) := ⟨_, rfl⟩
              have B4 : Hid (Below wr.heap.size wr w4) := Lib.hid (by rw [hw4]; exact below_alloc _ _)
              have HOW4 : Hid (w4.ownsRow w.heap.size 41 3 (.slice A n cap) n (Oc pre)) := Lib.hid (by have h := HO2.out.below B4.out; unfold opo at h; rw [← HN.out.1] at h; exact h)
              have HNC : Hid (∀ (j : Nat) (u : Value), ([.int .u8 0, .int .i64 (bn : Int), .int .i64 (bd : Int)] : List Value)[j]? = some u → w4.cell? ((⟨wr.heap.size, 0, none⟩ : Addr).add j) = some u) := Lib.hid (by rw [hw4]; exact one_cells wr _ _ _ 41)
              have B24 := Lib.hid (grows HB2.out B4.out)
              have hn1 : Hid (n + 1 ≤ 1000001) := Lib.hid (by have := HN.out.2; omega)
              clear ho hoc hstep hon
              go_wp2_with (at_builtin; rw [← hw4]; refine wpList_append_own_at _ rfl _ _ 24 rfl w.heap.size 41 i0 (.agg #[.int .u8 0, .int .i64 0, .int .i64 0]) 3 24 Tryd.underlying24 hi hz0 hz1 hz2 rfl (by decide) _ n (Oc pre) rfl HOW4.out ⟨wr.heap.size, 0, none⟩ 1 1 [.int .u8 0, .int .i64 (bn : Int), .int .i64 (bd : Int)] rfl rfl HNC.out (one_one _ _ _) ?a3 ?a4 ?a5 ?_)
              case a3 => unfold maxLen; have := hn1.out; omega
              case a4 => have := hn1.out; omega
              case a5 => first | exact B24.out.size | (have h1 := HB2.out.size; omega)
              intro v3 w5 hown hgrow _ _
              have O45 : Hid (Only (fun i => (Value.slice A n cap).ownBlock = some i) w4 w5) := Lib.hid (by first | exact (Only.refl _ w4).grown hgrow (fun i hi _ => hi) | (rw [← hw4] at hgrow; exact (Only.refl _ w4).grown hgrow (fun i hi _ => hi)))
              have OW5 : Hid (opo w.heap.size w5 v3 (pre ++ [o])) := Lib.hid (by unfold opo; rw [Oc_snoc, HOC.out, List.length_append, ← HN.out.1]; exact hown)
              obtain ⟨A5, c5, hv5⟩ := OW5.out.form
              obtain ⟨n5, hn5⟩ : ∃ n5, n5 = (pre ++ [o]).length := ⟨_, rfl⟩
              rw [← hn5] at hv5
              subst hv5
              have HN5 : Hid (n5 = (pre ++ [o]).length ∧ n5 ≤ a + bn) := Lib.hid ⟨hn5, by rw [hn5, List.length_append, ← HN.out.1]; have := HN.out.2; simp; omega⟩
              have B5 : Hid (Below w.heap.size w w5) := Lib.hid (O45.out.below B24.out B24.out.size (fun i hi => (HOW4.out.lt i hi).1))
              clear hown hgrow hn5 hw4
              go_wp2
              go_roundw
              case rel => exact ⟨a + bn, n5, c5, A5, pre ++ [o], rfl, by go_num, hal, HN5, OW5, Lib.hid (by rw [HMM.out, HAT2.out, List.append_assoc]; rfl), Lib.hid (fun y hy => by
                rcases List.mem_append.1 hy with h | h
                · exact HLE.out y h
                · obtain rfl : y = o := by simpa using h
                  have := HOL2.out
                  exact ⟨by omega, by omega⟩), B5⟩
              case measure => have := HAN.out; simp [intOf]; omega
            · have h3' : ¬ 3 ≤ (bn : Int) := by omega
              have HXB : Hid (bt s a = ((l.getD a 0).toNat : Int)) := Lib.hid (by rw [(bt_at s HAN.out).1, HL.out])
              have hgb := get_bt s
              obtain ⟨o, ho⟩ : ∃ o, o = bo (l.getD a 0) (bn, bd) := ⟨_, rfl⟩
              have hoc : (oc o).toList = [.int .u8 (bt s a), .int .i64 0, .int .i64 0] := by rw [ho]; unfold bo oc; rw [if_neg h3, HXB.out]; rfl
              have hon : o.n = 0 := by rw [ho, bo_n, if_neg h3]
              have hstep : a + (if o.n = 0 then 1 else o.n) = a + 1 := by rw [ho]; unfold bo; rw [if_neg h3]; rfl
              have HAT2 : Hid (opsM l a = o :: opsM l (a + 1)) := Lib.hid (by rw [← hstep, ho]; exact HAT.out)
              have HOL2 : Hid (o.n ≤ 258 ∧ o.d ≤ 256 ∧ a + 1 ≤ s.size) := Lib.hid (by have h1 := HOL.out; rw [← ho] at h1; have h2 := HSL.out; have h3 := HAN.out; omega)
              have HOC := Lib.hid hoc
              have hal := HOL2.out.2.2
              obtain ⟨w4, hw4⟩ : ∃ w4, w4 = wr.alloc (.cells #[.int .u8 (bt s a), .int .i64 0, .int .i64 0] 41) := ⟨_, rfl⟩
              have B4 : Hid (Below wr.heap.size wr w4) := Lib.hid (by rw [hw4]; exact below_alloc _ _)
              have HOW4 : Hid (w4.ownsRow w.heap.size 41 3 (.slice A n cap) n (Oc pre)) := Lib.hid (by have h := HO2.out.below B4.out; unfold opo at h; rw [← HN.out.1] at h; exact h)
              have HNC : Hid (∀ (j : Nat) (u : Value), ([.int .u8 (bt s a), .int .i64 0, .int .i64 0] : List Value)[j]? = some u → w4.cell? ((⟨wr.heap.size, 0, none⟩ : Addr).add j) = some u) := Lib.hid (by rw [hw4]; exact one_cells wr _ _ _ 41)
              have B24 := Lib.hid (grows HB2.out B4.out)
              have hn1 : Hid (n + 1 ≤ 1000001) := Lib.hid (by have := HN.out.2; omega)
              clear ho hoc hstep hon
              go_wp2_with (at_builtin; rw [← hw4]; refine wpList_append_own_at _ rfl _ _ 24 rfl w.heap.size 41 i0 (.agg #[.int .u8 0, .int .i64 0, .int .i64 0]) 3 24 Tryd.underlying24 hi hz0 hz1 hz2 rfl (by decide) _ n (Oc pre) rfl HOW4.out ⟨wr.heap.size, 0, none⟩ 1 1 [.int .u8 (bt s a), .int .i64 0, .int .i64 0] rfl rfl HNC.out (one_one _ _ _) ?a3 ?a4 ?a5 ?_)
              case a3 => unfold maxLen; have := hn1.out; omega
              case a4 => have := hn1.out; omega
              case a5 => first | exact B24.out.size | (have h1 := HB2.out.size; omega)
              intro v3 w5 hown hgrow _ _
              have O45 : Hid (Only (fun i => (Value.slice A n cap).ownBlock = some i) w4 w5) := Lib.hid (by first | exact (Only.refl _ w4).grown hgrow (fun i hi _ => hi) | (rw [← hw4] at hgrow; exact (Only.refl _ w4).grown hgrow (fun i hi _ => hi)))
              have OW5 : Hid (opo w.heap.size w5 v3 (pre ++ [o])) := Lib.hid (by unfold opo; rw [Oc_snoc, HOC.out, List.length_append, ← HN.out.1]; exact hown)
              obtain ⟨A5, c5, hv5⟩ := OW5.out.form
              obtain ⟨n5, hn5⟩ : ∃ n5, n5 = (pre ++ [o]).length := ⟨_, rfl⟩
              rw [← hn5] at hv5
              subst hv5
              have HN5 : Hid (n5 = (pre ++ [o]).length ∧ n5 ≤ a + 1) := Lib.hid ⟨hn5, by rw [hn5, List.length_append, ← HN.out.1]; have := HN.out.2; simp; omega⟩
              have B5 : Hid (Below w.heap.size w w5) := Lib.hid (O45.out.below B24.out B24.out.size (fun i hi => (HOW4.out.lt i hi).1))
              clear hown hgrow hn5 hw4
              go_wp2
              go_roundw
              case rel => exact ⟨a + 1, n5, c5, A5, pre ++ [o], rfl, by go_num, hal, HN5, OW5, Lib.hid (by rw [HMM.out, HAT2.out, List.append_assoc]; rfl), Lib.hid (fun y hy => by
                rcases List.mem_append.1 hy with h | h
                · exact HLE.out y h
                · obtain rfl : y = o := by simpa using h
                  have := HOL2.out
                  exact ⟨by omega, by omega⟩), B5⟩
              case measure => have := HAN.out; simp [intOf]; omega
    · have han' : ¬ (a : Int) < (s.size : Int) := by omega
      have HE : Hid (M = pre) := Lib.hid (by rw [HMM.out, opsM_end (by rw [HSL.out]; omega), List.append_nil])
      clear han
      go_wp2
      go_ret
      exact ⟨A, n, cap, rfl, by rw [HE.out]; exact HO.out, by rw [HE.out]; exact HLE.out, HB.out⟩
end Go.Proofs.YtnkninjdpgpkmaaDoor.Hq
namespace Go.Proofs.YtnkninjdpgpkmaaDoor.Hx
open Go.RowKit Go.PlainAid Go.Proofs.YtnkninjdpgpkmaaDoor.Vm Go.Proofs.YtnkninjdpgpkmaaDoor.Vo Go.Proofs.YtnkninjdpgpkmaaDoor.Bm Go.Proofs.YtnkninjdpgpkmaaDoor.Bw Go.Proofs.YtnkninjdpgpkmaaDoor.Na Go.Proofs.YtnkninjdpgpkmaaDoor.Nm Go.Proofs.YtnkninjdpgpkmaaDoor.Gp Go.Proofs.YtnkninjdpgpkmaaDoor.Gt

theorem neq_same (u : World) (x a b : Int) : (binOp .neq 41 (.agg #[.int .u8 x, .int .i64 a, .int .i64 b]) (.agg #[.int .u8 x, .int .i64 a, .int .i64 b])).run Tryd.prog u = .ok (.bool false) u := by
  go_simp
set_option maxHeartbeats 1000000 in
set_option maxRecDepth 100000 in
theorem OpsSame_same {A1 A2 : Option Addr} {c1 c2 : Nat} {L : List Opi} {w : World} (h1 : opr w A1 L) (h2 : opr w A2 L) (hl : L.length ≤ 1000000) :
    Calls Tryd.prog 6 #[.slice A1 L.length c1, .slice A2 L.length c2] w fun e w' => e = .returned (.bool true) ∧ ∃ m, w' = w.drewN m := by
  obtain ⟨n, hn⟩ : ∃ n, n = L.length := ⟨_, rfl⟩
  have H1 := Lib.hid h1
  have H2 := Lib.hid h2
  have HN := Lib.hid hn
  rw [← hn]
  rw [← hn] at hl
  clear h1 h2 hn
  go_enter Tryd.func6, Tryd.ntmps6
  go_wp2
  go_loopw [5] (fun s5 wr => ∃ j : Nat, s5 = .int .i64 (j : Int) ∧ j ≤ n ∧ Hid (∃ q, wr = w.drewN q)) (fun s5 _ => n - (intOf s5).toNat)
  case atStart => exact ⟨0, rfl, Nat.zero_le _, Lib.hid ⟨0, rfl⟩⟩
  case round =>
    obtain ⟨j, rfl, hj, HW⟩ := hrel
    have HWB : Hid (Below w.heap.size w wr) := Lib.hid (by obtain ⟨q, hq⟩ := HW.out; rw [hq]; exact below_draws _ _)
    by_cases hjn : j < n
    · have hjn' : (j : Int) < (n : Int) := by omega
      have hj0 : (0 : Int) ≤ (j : Int) := by omega
      obtain ⟨o, ho⟩ : ∃ o, L[j]? = some o := ⟨_, List.getElem?_eq_getElem (by rw [← HN.out]; exact hjn)⟩
      obtain ⟨_, _, p1, o1, hA1, _, a0, a1, a2⟩ := (H1.out.below HWB.out) j o ho
      obtain ⟨_, _, p2, o2, hA2, _, b0, b1, b2⟩ := (H2.out.below HWB.out) j o ho
      subst hA1; subst hA2
      obtain ⟨x0, hx0⟩ : ∃ x : Int, x = (o.x.toNat : Int) := ⟨_, rfl⟩
      obtain ⟨x1, hx1⟩ : ∃ x, x = o.n := ⟨_, rfl⟩
      obtain ⟨x2, hx2⟩ : ∃ x, x = o.d := ⟨_, rfl⟩
      rw [← hx0] at a0 b0
      rw [← hx1] at a1 b1
      rw [← hx2] at a2 b2
      have hq := neq_same wr x0 x1 x2
      clear ho hx0 hx1 hx2
      go_wp2
      go_quiet (fail)
      go_wp2
      go_roundw
      case rel => exact ⟨j + 1, by go_num, by omega, Lib.hid (by obtain ⟨q, hq⟩ := HW.out; exact ⟨_, by rw [hq, World.drewN_drewN]⟩)⟩
      case measure => simp [intOf]; omega
    · obtain rfl : j = n := by omega
      have hjn' : ¬ ((j : Int) < (j : Int)) := by omega
      go_wp2
      go_ret
      exact ⟨rfl, HW.out⟩

set_option maxHeartbeats 2000000 in
set_option maxRecDepth 100000 in
theorem Same_same {A1 A2 : Option Addr} {c1 c2 : Nat} {L : List Pz} {w : World} (h1 : ptr w A1 L) (h2 : ptr w A2 L) (hl : L.length ≤ 1000001) (ho : ∀ p ∈ L, p.os.length ≤ 1000000) :
    Calls Tryd.prog 9 #[.slice A1 L.length c1, .slice A2 L.length c2] w fun e w' => e = .returned (.bool true) ∧ Below w.heap.size w w' := by
  obtain ⟨n, hn⟩ : ∃ n, n = L.length := ⟨_, rfl⟩
  have H1 := Lib.hid h1
  have H2 := Lib.hid h2
  have HN := Lib.hid hn
  have HO := Lib.hid ho
  rw [← hn]
  rw [← hn] at hl
  clear h1 h2 hn ho
  go_enter Tryd.func9, Tryd.ntmps9
  go_wp2
  go_loopw [5] (fun s5 wr => ∃ j : Nat, s5 = .int .i64 (j : Int) ∧ j ≤ n ∧ Hid (Below w.heap.size w wr)) (fun s5 _ => n - (intOf s5).toNat)
  case atStart => exact ⟨0, rfl, Nat.zero_le _, Lib.hid (Below.refl _ _)⟩
  case round =>
    obtain ⟨j, rfl, hj, HW⟩ := hrel
    by_cases hjn : j < n
    · have hjn' : (j : Int) < (n : Int) := by omega
      have hj0 : (0 : Int) ≤ (j : Int) := by omega
      obtain ⟨p, hp⟩ : ∃ p, L[j]? = some p := ⟨_, List.getElem?_eq_getElem (by rw [← HN.out]; exact hjn)⟩
      have hpo := HO.out p (List.mem_of_getElem? hp)
      obtain ⟨p1, o1, hA1, hb1, q1⟩ := (H1.out.below HW.out) j p hp
      obtain ⟨p2, o2, hA2, hb2, q2⟩ := (H2.out.below HW.out) j p hp
      subst hA1; subst hA2
      have a0 := q1.c0
      have a1 := q1.c1
      obtain ⟨Aa, ca, a2, rq1⟩ := q1.os
      obtain ⟨A3, c3, a3, _, _⟩ := q1.l1
      obtain ⟨A4, c4, a4, _, _⟩ := q1.l2
      have b0 := q2.c0
      have b1 := q2.c1
      obtain ⟨Ab, cb, b2, rq2⟩ := q2.os
      obtain ⟨B3, d3, b3, _, _⟩ := q2.l1
      obtain ⟨B4, d4, b4, _, _⟩ := q2.l2
      have HS := Lib.hid (fun n => OpsSame_same (c1 := ca) (c2 := cb) (rq1.below (below_draws wr n)) (rq2.below (below_draws wr n)) hpo)
      obtain ⟨pk, hpk⟩ : ∃ x, x = p.k := ⟨_, rfl⟩
      obtain ⟨pt, hpt⟩ : ∃ x, x = p.t := ⟨_, rfl⟩
      obtain ⟨pm, hpm⟩ : ∃ x, x = p.os.length := ⟨_, rfl⟩
      obtain ⟨pn, hpn⟩ : ∃ x, x = p.n1 := ⟨_, rfl⟩
      obtain ⟨pl, hpl⟩ : ∃ x, x = p.n2 := ⟨_, rfl⟩
      rw [← hpk] at a0 b0
      rw [← hpt] at a1 b1
      rw [← hpm] at a2 b2 HS
      rw [← hpn] at a3 b3
      rw [← hpl] at a4 b4
      have hkk : (pk != pk) = false := bne_self_eq_false _
      have hmm : ((pn : Int) != (pn : Int)) = false := bne_self_eq_false _
      have hll : ((pl : Int) != (pl : Int)) = false := bne_self_eq_false _
      clear hp hpo hb1 hb2 q1 q2 rq1 rq2 hpk hpt hpm hpn hpl
      have HJN := Lib.hid hjn
      clear hjn
      go_wp2_with fail
      simp only [List.append]
      go_quiet ((go_at_call 6; exact Calls.quiet_of (HS.out _)))
      go_wp2
      go_roundw
      case rel => exact ⟨j + 1, by go_num, by have := HJN.out; omega, Lib.hid (grows HW.out (below_draws wr _))⟩
      case measure => have := HJN.out; simp [intOf]; omega
    · obtain rfl : j = n := by omega
      have hjn' : ¬ ((j : Int) < (j : Int)) := by omega
      go_wp2
      go_ret
      exact ⟨rfl, HW.out⟩
end Go.Proofs.YtnkninjdpgpkmaaDoor.Hx
