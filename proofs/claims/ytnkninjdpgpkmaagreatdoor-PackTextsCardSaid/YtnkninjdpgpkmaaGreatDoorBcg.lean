/-
  The reference's Encode: its result.
  Conditions: as each theorem says.
-/
import Derived.Test.YtnkninjdpgpkmaaGreatDoorBcc
import Derived.Test.YtnkninjdpgpkmaaGreatDoorBcd
import Derived.Test.YtnkninjdpgpkmaaGreatDoorBce
import Derived.Test.YtnkninjdpgpkmaaGreatDoorBcf
import Derived.Test.YtnkninjdpgpkmaaGreatDoorBbl
import Derived.Deep.DeepCutAuto
import Derived.Deep.LoopGhost
namespace Go.Proofs.YtnkninjdpgpkmaaGreatDoor.Hw
open Go.RowKit Go.Proofs.YtnkninjdpgpkmaaGreatDoor.Vm Go.Proofs.YtnkninjdpgpkmaaGreatDoor.Vo Go.Proofs.YtnkninjdpgpkmaaGreatDoor.Bm Go.Proofs.YtnkninjdpgpkmaaGreatDoor.Bw Go.Proofs.YtnkninjdpgpkmaaGreatDoor.Bv Go.Proofs.YtnkninjdpgpkmaaGreatDoor.Bx Go.Proofs.YtnkninjdpgpkmaaGreatDoor.Be Go.Proofs.YtnkninjdpgpkmaaGreatDoor.Bf Go.Proofs.YtnkninjdpgpkmaaGreatDoor.Na Go.Proofs.YtnkninjdpgpkmaaGreatDoor.Nm Go.Proofs.YtnkninjdpgpkmaaGreatDoor.Ne Go.Proofs.YtnkninjdpgpkmaaGreatDoor.Km Go.Proofs.YtnkninjdpgpkmaaGreatDoor.Kw Go.Proofs.YtnkninjdpgpkmaaGreatDoor.Ks Go.Proofs.YtnkninjdpgpkmaaGreatDoor.Ko Go.Proofs.YtnkninjdpgpkmaaGreatDoor.Kd Go.Proofs.YtnkninjdpgpkmaaGreatDoor.Kp Go.Proofs.YtnkninjdpgpkmaaGreatDoor.Ke Go.Proofs.YtnkninjdpgpkmaaGreatDoor.Kl Go.Proofs.YtnkninjdpgpkmaaGreatDoor.Ma Go.Proofs.YtnkninjdpgpkmaaGreatDoor.Md Go.Proofs.YtnkninjdpgpkmaaGreatDoor.Pw Go.Proofs.YtnkninjdpgpkmaaGreatDoor.Sm Go.Proofs.YtnkninjdpgpkmaaGreatDoor.Sp Go.Proofs.YtnkninjdpgpkmaaGreatDoor.Sr Go.Proofs.YtnkninjdpgpkmaaGreatDoor.Kh Go.Proofs.YtnkninjdpgpkmaaGreatDoor.Fm Go.Proofs.YtnkninjdpgpkmaaGreatDoor.Gm Go.Proofs.YtnkninjdpgpkmaaGreatDoor.Ga Go.Proofs.YtnkninjdpgpkmaaGreatDoor.Gp Go.Proofs.YtnkninjdpgpkmaaGreatDoor.Gt Go.Proofs.YtnkninjdpgpkmaaGreatDoor.Gw Go.Proofs.YtnkninjdpgpkmaaGreatDoor.Gy Go.Proofs.YtnkninjdpgpkmaaGreatDoor.Gz Go.Proofs.YtnkninjdpgpkmaaGreatDoor.Hl Go.Proofs.YtnkninjdpgpkmaaGreatDoor.Hr

section
variable {B : Nat} {w w' : World} {g : Nat} {v v' : Value} {l l2 : List (Nat × Nat)}
/-- A head is written. -/
theorem rwl_head {b : Bool} {k z : Int} {A1 A2 : Option Addr} {n1 c1 n2 c2 : Nat} {f1 f2 : Nat → Int} (h : rwl B w g v l) (hz : bl l ≤ 100000000) (r1 : rowS B w A1 n1 f1) (r2 : rowS B w A2 n2 f2) :
    Calls Tryz.prog 51 #[.pointer (some ⟨g, 0, none⟩), hv b k z (.slice A1 n1 c1) (.slice A2 n2 c2)] w fun e w' => e = .returned (.int .i64 (wrM k z n1 f1 n2 f2)) ∧ ∃ v', wrt B w g v (l ++ wrO b k z n1 f1 n2 f2 (bl l)) w' v' := by
  obtain ⟨bs, t, h1, h2⟩ := h.t
  refine (Md.rWrite_any (Lib.hid t) h1 h.s hz (Lib.hid (fun x o => ⟨(h.keeps o r1).1, (h.keeps o r2).1⟩))).mono ?_
  rintro e w' ⟨rfl, v', k'⟩
  obtain ⟨bs', t', l', n'⟩ := k'.t
  exact ⟨rfl, v', h.of t' k'.o k'.a (by rw [l', bl_append]) (by rw [n', h2, bn_append, Nat.mul_comm])⟩
/-- A text is written, the writer at a whole byte. -/
theorem rwl_text (s : ByteArray) (h : rwl B w g v l) (h8 : bl l % 8 = 0) (hz : bl l ≤ 35184372088832) (hs : s.size ≤ 100000) :
    Calls Tryz.prog 52 #[.pointer (some ⟨g, 0, none⟩), .string s] w fun e w' => e = .returned (.tuple #[]) ∧ ∃ v', wrt B w g v (l ++ s.data.toList.map (fun x => (x.toNat, 8))) w' v' := by
  obtain ⟨bs, t, h1, h2⟩ := h.t
  refine (rwBytes_any B s t h.s (by omega) hs).mono ?_
  rintro e w' ⟨rfl, v', bs', t', l', n', o, a⟩
  have hsl : s.data.toList.length = s.size := Array.length_toList
  have e8 : (bs.length + 7) / 8 * 8 = bl l := by omega
  rw [e8] at l' n'
  exact ⟨rfl, v', h.of t' o a (by rw [l', bl_append, bl_text, hsl]) (by rw [n', h2, bn_append, bn_text])⟩
/-- The bytes. -/
theorem rwl_out (h : rwl B w g v l) (hz : bl l ≤ 70368744177664) :
    Calls Tryz.prog 57 #[.pointer (some ⟨g, 0, none⟩)] w fun e w' => ∃ S, e = .returned (.string S) ∧ holds S l ∧ Below w.heap.size w w' := by
  obtain ⟨bs, t, h1, h2⟩ := h.t
  refine (rwText_any B t (by omega)).mono ?_
  rintro e w' ⟨x, rfl, n', l', b⟩
  exact ⟨⟨x.toArray⟩, rfl, ⟨by rw [← h2]; exact n', by rw [← h1]; exact l'⟩, b⟩
theorem okL_err {n : Nat} {f : Nat → Int} (he : err n f = 0) : okL (L n f) := by
  obtain ⟨_, h2, h3⟩ := err_zero he
  exact ⟨L_le h2, h3⟩
end
theorem encOs_cons {Li Di : List Nat} (o : Opx) (r : List Opx) : encOs Li Di (o :: r) = encO Li Di o ++ encOs Li Di r := rfl
theorem map_drop_cons {os : List Opi} {q : Nat} {o : Opi} (h : os[q]? = some o) : (os.drop q).map Opi.nat = o.nat :: (os.drop (q + 1)).map Opi.nat := by rw [drop_cons h]; rfl
theorem dyn_err {k z M : Int} {n1 n2 : Nat} {f1 f2 : Nat → Int} (hk : k = 2) (h : M = wrM k z n1 f1 n2 f2) (h0 : M = 0) : err n1 f1 = 0 ∧ err n2 f2 = 0 := by
  rw [h] at h0
  unfold wrM at h0
  rw [if_neg (by omega), if_pos hk] at h0
  by_cases hb : n1 < 257 ∨ 286 < n1 ∨ n2 < 1 ∨ 30 < n2
  · rw [if_pos hb] at h0; cases h0
  · rw [if_neg hb] at h0
    exact fitsI_err h0
theorem sizeWr : (Tryz.prog.info? 112).map (·.size) = some 1 := by kernel_rfl

/-- The lists by which a part's symbols are written. -/
structure byL (B : Nat) (w : World) (A : Option Addr) (n : Nat) (l : List Nat) : Prop where
  h : ∃ f, rowS B w A n f ∧ err n f = 0 ∧ L n f = l
  n : n ≤ 9223372036854775807
theorem byL.below {B : Nat} {w w' : World} {A : Option Addr} {n : Nat} {l : List Nat} (h : byL B w A n l) (k : Below w.heap.size w w') : byL B w' A n l := by
  obtain ⟨f, h1, h2⟩ := h.h
  exact ⟨⟨f, rowS_below h1 k, h2⟩, h.n⟩
theorem byL.keeps {B : Nat} {w w' : World} {A : Option Addr} {n g : Nat} {l : List Nat} {v : Value} {y : List (Nat × Nat)} (h : byL B w A n l) (r : rwl B w g v y) (o : Only (own g v) w w') : byL B w' A n l := by
  obtain ⟨f, h1, h2⟩ := h.h
  exact ⟨⟨f, r.keeps o h1, h2⟩, h.n⟩
theorem byL.ok {B : Nat} {w : World} {A : Option Addr} {n : Nat} {l : List Nat} (h : byL B w A n l) : okL l := by
  obtain ⟨f, h1, h2, h3⟩ := h.h
  rw [← h3]; exact okL_err h2

set_option maxHeartbeats 8000000 in
set_option maxRecDepth 100000 in
theorem rEncode_any {W : World} {A : Option Addr} {c : Nat} {l : List Pz} (h : ptr W A l) (hc : ptsC l ≤ 100000) (hl : l.length ≤ 1000000) (ho : ∀ p ∈ l, p.os.length ≤ 1000000) (hb : ptsB l ≤ 50000000) :
    Calls Tryz.prog 25 #[.slice A l.length c] W fun e w' => ∃ S, e = .returned (.tuple #[.string S, .int .i64 (encE l)]) ∧ encS l S ∧ Below W.heap.size W w' := by
  have HTX := Lib.hid (rText_any (c := c) h (by omega) hl ho)
  obtain ⟨N, hN⟩ : ∃ N, N = l.length := ⟨_, rfl⟩
  rw [← hN] at HTX hl ⊢
  have HN := Lib.hid hN
  have H := Lib.hid h
  have HB := Lib.hid hb
  have HCC := Lib.hid hc
  obtain ⟨R, hR⟩ : ∃ R, R = encE l := ⟨_, rfl⟩
  rw [← hR]
  have HR := Lib.hid hR
  obtain ⟨T, hT⟩ : ∃ T, T = textM l := ⟨_, rfl⟩
  rw [← hT] at HTX
  have HT := Lib.hid hT
  obtain ⟨te, tt⟩ := T
  dsimp only at HTX
  obtain ⟨TS, hTS⟩ : ∃ TS : ByteArray, TS = ⟨tt.toArray⟩ := ⟨_, rfl⟩
  rw [← hTS] at HTX
  clear h hc ho hb hN hR hT hTS
  by_cases h0 : te = 0
  · have hb0 : (te != 0) = false := by simp [h0]
    have HT0 : Hid ((ptsT [] l).1 = 0 ∧ l ≠ [] ∧ R = ptsE l) := Lib.hid (by
      have hne : l ≠ [] := fun e => by
        have := HT.out
        rw [e, textM_nil] at this
        injection this with this _
        rw [h0] at this; cases this
      have h1 := HT.out
      rw [textM_cons hne] at h1
      have h2 : (ptsT [] l).1 = 0 := by
        by_cases h3 : (ptsT [] l).1 = 0
        · exact h3
        · rw [if_neg h3] at h1
          injection h1 with h1 _
          rw [h0] at h1; exact h1.symm
      refine ⟨h2, hne, ?_⟩
      rw [HR.out]
      unfold encE
      rw [← HT.out, if_neg (by show ¬ te ≠ 0; rw [h0]; decide)])
    subst h0
    have HN0 : Hid (0 < N) := Lib.hid (by rw [HN.out]; exact List.length_pos_iff.2 HT0.out.2.1)
    obtain ⟨M, hM⟩ : ∃ M, M = N - 1 := ⟨_, rfl⟩
    have hsub : IntKind.i64.wrap ((N : Int) - 1) = (M : Int) := by rw [IntKind.wrap_i64]; have := HN0.out; omega
    have HMM := Lib.hid hM
    clear hM
    go_enter Tryz.func25, Tryz.ntmps25
    go_wp2_with fail
    refine HTX.out.mono ?_
    rintro e w1 ⟨rfl, b1⟩
    have B1 := Lib.hid b1
    clear b1
    obtain ⟨w2, hw2⟩ : ∃ w2, w2 = w1.alloc (.cells #[.slice none 0 0] 112) := ⟨_, rfl⟩
    obtain ⟨g, hg⟩ : ∃ g, g = w1.heap.size := ⟨_, rfl⟩
    have B2 : Hid (Below W.heap.size W w2) := Lib.hid (by rw [hw2]; exact grows B1.out (below_alloc _ _))
    have W2 : Hid (rwl W.heap.size w2 g (.slice none 0 0) []) := Lib.hid ⟨⟨[], ⟨by rw [hw2, hg]; exact Blk.fresh _ _ _, World.ownsRow_nil _ _ _ _, fun x hx => by cases hx⟩, rfl, rfl⟩, by rw [hg]; exact B1.out.size, B2.out.size⟩
    go_wp2_with fail
    rw [← hw2, ← hg]
    clear hw2 hg
    go_loopw [7] (fun s7 wr => ∃ (j : Nat) (v : Value) (y : List (Nat × Nat)) (b : List UInt8), s7 = .int .i64 (j : Int) ∧ j ≤ N ∧ Hid (rwl W.heap.size wr g v y) ∧ Hid (Below W.heap.size W wr) ∧ Hid (encPs (l.map Pz.pt) 0 = y ++ encPs ((l.drop j).map Pz.pt) (bl y)) ∧ Hid (R = ptsE (l.drop j)) ∧ Hid (bl y + ptsB (l.drop j) ≤ 50000000) ∧ Hid ((ptsT b (l.drop j)).1 = 0)) (fun s7 _ => N - (intOf s7).toNat)
    case atStart => exact ⟨0, _, [], [], rfl, Nat.zero_le _, W2, B2, Lib.hid (by rw [List.drop_zero]; rfl), Lib.hid (by rw [List.drop_zero]; exact HT0.out.2.2), Lib.hid (by rw [List.drop_zero]; have := HB.out; simpa [bl] using this), Lib.hid (by rw [List.drop_zero]; exact HT0.out.1)⟩
    case round =>
      obtain ⟨j, v, y, b, rfl, hj, HE, HBW, HY, HRR, HBB, HTT⟩ := hrel
      by_cases hjn : j < N
      · have hjn' : (j : Int) < (N : Int) := by omega
        have hj0 : (0 : Int) ≤ (j : Int) := by omega
        obtain ⟨p, hpj⟩ : ∃ p, l[j]? = some p := ⟨_, List.getElem?_eq_getElem (by rw [← HN.out]; exact hjn)⟩
        have hdr := drop_cons hpj
        obtain ⟨bb, off, hA, hbb, hp⟩ := H.out j p hpj
        subst hA
        obtain ⟨Ao, co, eo, ro⟩ := hp.os
        obtain ⟨A1, q1, e1, r1, m1⟩ := hp.l1
        obtain ⟨A2, q2, e2, r2, m2⟩ := hp.l2
        have hk : ∀ i, wr.cell? ⟨bb, i, none⟩ = W.cell? ⟨bb, i, none⟩ := fun i => HBW.out.cell (p := ⟨bb, i, none⟩) hbb
        have g0 := (hk _).trans hp.c0
        have g1 := (hk _).trans hp.c1
        have g2 := (hk _).trans eo
        have g3 := (hk _).trans e1
        have g4 := (hk _).trans e2
        have HT1 := HTT.out
        rw [hdr] at HT1
        have HT2 := okT_cons HT1
        have HTP := Lib.hid HT2.1
        have HTN := Lib.hid HT2.2
        obtain ⟨fin, hfin⟩ : ∃ fin : Bool, fin = ((l.drop (j + 1)).map Pz.pt).isEmpty := ⟨_, rfl⟩
        have hfb : ((j : Int) == (M : Int)) = fin := by
          rw [hfin]
          have h1 := HN.out
          have h2 := HMM.out
          by_cases hx : j = M
          · rw [List.drop_eq_nil_of_le (by omega)]
            simp; omega
          · have hne : l.drop (j + 1) ≠ [] := fun e => by
              have := congrArg List.length e
              rw [List.length_drop] at this
              simp at this; omega
            have e1 : ((l.drop (j + 1)).map Pz.pt).isEmpty = false := by
              cases hq : l.drop (j + 1)
              · exact absurd hq hne
              · rfl
            rw [e1]; simp; omega
        have HYS : Hid (encPs (l.map Pz.pt) 0 = (y ++ encP p.pt fin (bl y)) ++ encPs ((l.drop (j + 1)).map Pz.pt) (bl (y ++ encP p.pt fin (bl y)))) := Lib.hid (by
          rw [HY.out, hdr, List.map_cons, encPs_cons, ← hfin, List.append_assoc, bl_append])
        have HRS : Hid (R = if ptE p = 0 then ptsE (l.drop (j + 1)) else ptE p) := Lib.hid (by rw [HRR.out, hdr, ptsE_cons])
        have HBS : Hid (bl y + ptB p + ptsB (l.drop (j + 1)) ≤ 50000000) := Lib.hid (by have h1 := HBB.out; rw [hdr] at h1; simp only [ptsB] at h1; omega)
        have HOKB : Hid (ptE p = 0 → bl (encP p.pt fin (bl y)) ≤ ptB p) := Lib.hid (fun e => encP_bl (part_okP HT2.1 e).1 fin (bl y))
        have hsz : p.t.size ≤ 100000 := by
          have h1 : ∀ (q : List Pz), p ∈ q → p.t.size ≤ ptsC q := fun q => by
            induction q with
            | nil => intro h; cases h
            | cons a q ih =>
              intro h
              simp only [ptsC]
              rcases List.mem_cons.1 h with e | h
              · rw [← e]; unfold ptC; omega
              · have := ih h; omega
          have := h1 l (List.mem_of_getElem? hpj)
          have := HCC.out
          omega
        have HSZ := Lib.hid hsz
        have HRO := Lib.hid ro
        have R1 : Hid (rowS W.heap.size W A1 p.n1 p.f1) := Lib.hid (row_rowS r1)
        have R2 : Hid (rowS W.heap.size W A2 p.n2 p.f2) := Lib.hid (row_rowS r2)
        have M1 := Lib.hid m1
        have M2 := Lib.hid m2
        obtain ⟨er, her⟩ : ∃ er, er = ptE p := ⟨_, rfl⟩
        rw [← her] at HRS HOKB
        have HER := Lib.hid her
        have HRZ : Hid ((er = 0 → R = ptsE (l.drop (j + 1))) ∧ (er ≠ 0 → R = er)) := Lib.hid ⟨fun e => by rw [HRS.out, if_pos e], fun e => by rw [HRS.out, if_neg e]⟩
        obtain ⟨bn', hbn⟩ : ∃ bn', bn' = (ptT b p).2 := ⟨_, rfl⟩
        rw [← hbn] at HTN
        have HJN := Lib.hid hjn
        clear hp hk eo e1 e2 ro r1 r2 m1 m2 hpj hdr hbb HT1 HT2 HRR HBB HTT HY HRS hfin her hbn hjn hsz
        obtain ⟨pk, pt, pos, pn1, pf1, pn2, pf2⟩ := p
        dsimp only at g0 g1 g2 g3 g4 HSZ HRO R1 R2 M1 M2
        obtain ⟨No, hNo⟩ : ∃ No, No = pos.length := ⟨_, rfl⟩
        rw [← hNo] at g2
        have HNO := Lib.hid hNo
        clear hNo
        obtain ⟨Z, hZ⟩ : ∃ Z, Z = wr.heap.size := ⟨_, rfl⟩
        obtain ⟨w2, hw2⟩ : ∃ w2, w2 = wr.alloc (.cells #[.int .i64 pk, .string pt, .slice Ao No co, .slice A1 pn1 q1, .slice A2 pn2 q2] 96) := ⟨_, rfl⟩
        have BX : Hid (Below wr.heap.size wr w2) := Lib.hid (by rw [hw2]; exact below_alloc _ _)
        have K2 : Hid (Blk w2 Z 96 #[.int .i64 pk, .string pt, .slice Ao No co, .slice A1 pn1 q1, .slice A2 pn2 q2]) := Lib.hid (by rw [hw2, hZ]; exact Blk.fresh _ _ _)
        have E2 := Lib.hid (HE.out.below BX.out)
        have BW2 := Lib.hid (grows HBW.out BX.out)
        have d0 : w2.cell? ⟨Z, 0, none⟩ = some (.int .i64 pk) := K2.out.cell 0
        have d1 : w2.cell? ⟨Z, 1, none⟩ = some (.string pt) := K2.out.cell 1
        have d2 : w2.cell? ⟨Z, 2, none⟩ = some (.slice Ao No co) := K2.out.cell 2
        have d3 : w2.cell? ⟨Z, 3, none⟩ = some (.slice A1 pn1 q1) := K2.out.cell 3
        have d4 : w2.cell? ⟨Z, 4, none⟩ = some (.slice A2 pn2 q2) := K2.out.cell 4
        have HWR := Lib.hid (rwl_head (b := fin) (k := pk) (z := (pt.size : Int)) (c1 := q1) (c2 := q2) E2.out (by have := HBS.out; omega) (rowS_below R1.out BW2.out) (rowS_below R2.out BW2.out))
        unfold hv at HWR
        obtain ⟨X, hX⟩ : ∃ X, X = wrM pk (pt.size : Int) pn1 pf1 pn2 pf2 := ⟨_, rfl⟩
        rw [← hX] at HWR
        have HX := Lib.hid hX
        clear hX
        go_wp2_with fail
        rw [← hw2]
        try rw [← hZ]
        clear hw2 hZ g0 g1 g2 g3 g4
        go_wp2_with fail
        refine HWR.out.mono ?_
        clear d0 d1 d2 d3 d4
        rintro e w3 ⟨rfl, v3, hk3⟩
        have E3 := Lib.hid hk3.r
        have BW3 := Lib.hid (E2.out.base hk3.o rfl BW2.out)
        have K3 : Hid (Blk w3 Z 96 #[.int .i64 pk, .string pt, .slice Ao No co, .slice A1 pn1 q1, .slice A2 pn2 q2]) := Lib.hid (K2.out.only hk3.o (fun e => by rcases E2.out.kind e K2.out with h | h <;> exact absurd h (by decide)))
        clear hk3 HWR
        by_cases hX0 : X = 0
        · have hXb : (X != 0) = false := by simp [hX0]
          have HHW := Lib.hid (wr_part (p := ⟨pk, pt, pos, pn1, pf1, pn2, pf2⟩) (by show wrM pk (pt.size : Int) pn1 pf1 pn2 pf2 = 0; rw [← HX.out]; exact hX0))
          have HWO : Hid (wrO fin pk (pt.size : Int) pn1 pf1 pn2 pf2 (bl y) = outM (hdP (Pz.pt ⟨pk, pt, pos, pn1, pf1, pn2, pf2⟩) fin) (bl y)) := Lib.hid (by
            unfold wrO
            rw [if_pos (HX.out.symm.trans hX0)]
            unfold hdP Pz.pt
            simp only [Array.length_toList, Int.toNat_natCast]
            rfl)
          rw [HWO.out] at E3
          have HOB : Hid (bl (outM (hdP (Pz.pt ⟨pk, pt, pos, pn1, pf1, pn2, pf2⟩) fin) (bl y)) ≤ 1400) := Lib.hid (outM_bl (okH_fin fin HHW.out.1) _)
          have HRR : Hid (er = if pk = 0 then 0 else opsE (lis (Pz.pt ⟨pk, pt, pos, pn1, pf1, pn2, pf2⟩)) (dis (Pz.pt ⟨pk, pt, pos, pn1, pf1, pn2, pf2⟩)) (pos.map Opi.nat)) := Lib.hid (by
            rw [HER.out]
            unfold ptE
            dsimp only
            rw [← HX.out, if_neg (by rw [hX0]; decide)]
            rfl)
          obtain ⟨Y, hY⟩ : ∃ Y, Y = y ++ outM (hdP (Pz.pt ⟨pk, pt, pos, pn1, pf1, pn2, pf2⟩) fin) (bl y) := ⟨_, rfl⟩
          rw [← hY] at E3
          have HYY := Lib.hid hY
          have HYB : Hid (bl Y ≤ bl y + 1400) := Lib.hid (by rw [hY, bl_append]; have := HOB.out; omega)
          have HEP : Hid (y ++ encP (Pz.pt ⟨pk, pt, pos, pn1, pf1, pn2, pf2⟩) fin (bl y) = Y ++ bodP (Pz.pt ⟨pk, pt, pos, pn1, pf1, pn2, pf2⟩)) := Lib.hid (by rw [hY, encP, List.append_assoc])
          have HYN : Hid (er = 0 → bl (Y ++ bodP (Pz.pt ⟨pk, pt, pos, pn1, pf1, pn2, pf2⟩)) + ptsB (l.drop (j + 1)) ≤ 50000000) := Lib.hid (fun e => by
            have h1 := HOKB.out e
            have h2 := HBS.out
            rw [← HEP.out, bl_append]; omega)
          rw [HEP.out] at HYS
          clear hY hX0
          have k0 : w3.cell? ⟨Z, 0, none⟩ = some (.int .i64 pk) := K3.out.cell 0
          have k1 : w3.cell? ⟨Z, 1, none⟩ = some (.string pt) := K3.out.cell 1
          have k3 : w3.cell? ⟨Z, 3, none⟩ = some (.slice A1 pn1 q1) := K3.out.cell 3
          have k4 : w3.cell? ⟨Z, 4, none⟩ = some (.slice A2 pn2 q2) := K3.out.cell 4
          have hk := HHW.out.2
          dsimp only at hk
          by_cases hk0 : pk = 0
          · subst hk0
            have H8 : Hid (bl Y % 8 = 0) := Lib.hid (by
              rw [HYY.out, bl_append]
              unfold outM
              rw [if_pos (show (hdP (Pz.pt ⟨0, pt, pos, pn1, pf1, pn2, pf2⟩) fin).kind = 0 from rfl)]
              simp only [bl, List.cons_append, List.nil_append, padZ]
              omega)
            have HBY := Lib.hid (rwl_text pt E3.out H8.out (by have h1 := HYB.out; have h2 := HBS.out; omega) HSZ.out)
            have HB0 : Hid (bodP (Pz.pt ⟨0, pt, pos, pn1, pf1, pn2, pf2⟩) = pt.data.toList.map (fun x => (x.toNat, 8))) := Lib.hid (by unfold bodP; rw [if_pos (show (Pz.pt ⟨0, pt, pos, pn1, pf1, pn2, pf2⟩).kind = 0 from rfl)]; rfl)
            have HR0 : Hid (er = 0) := Lib.hid (by rw [HRR.out, if_pos rfl])
            clear hk
            go_wp2_with fail
            refine HBY.out.mono ?_
            rintro e w4 ⟨rfl, v4, hk4⟩
            have E4 : Hid (rwl W.heap.size w4 g v4 (Y ++ bodP (Pz.pt ⟨0, pt, pos, pn1, pf1, pn2, pf2⟩))) := Lib.hid (by rw [HB0.out]; exact hk4.r)
            have BW4 := Lib.hid (E3.out.base hk4.o rfl BW3.out)
            clear hk4 HBY k0 k1 k3 k4
            go_wp2
            go_roundw
            case rel => exact ⟨j + 1, v4, _, bn', by go_num, by have := HJN.out; omega, E4, BW4, HYS, Lib.hid (HRZ.out.1 HR0.out), Lib.hid (HYN.out HR0.out), HTN⟩
            case measure => have := HJN.out; simp [intOf]; omega
          · have hk0b : (pk == 0) = false := by simp [hk0]
            have HB0 : Hid (bodP (Pz.pt ⟨pk, pt, pos, pn1, pf1, pn2, pf2⟩) = encOs (lis (Pz.pt ⟨pk, pt, pos, pn1, pf1, pn2, pf2⟩)) (dis (Pz.pt ⟨pk, pt, pos, pn1, pf1, pn2, pf2⟩)) (pos.map Opi.nat)) := Lib.hid (by unfold bodP; rw [if_neg (show ¬ (Pz.pt ⟨pk, pt, pos, pn1, pf1, pn2, pf2⟩).kind = 0 by show ¬ pk.toNat = 0; omega)]; rfl)
            have HR0 : Hid (er = opsE (lis (Pz.pt ⟨pk, pt, pos, pn1, pf1, pn2, pf2⟩)) (dis (Pz.pt ⟨pk, pt, pos, pn1, pf1, pn2, pf2⟩)) (pos.map Opi.nat)) := Lib.hid (by rw [HRR.out, if_neg hk0])
            have HPT : Hid ((opsT b pos).1 = 0) := Lib.hid (by have := HTP.out; unfold ptT at this; dsimp only at this; rw [if_neg (by omega), if_neg hk0] at this; exact this)
            have HBD := Lib.hid (fun (e1 : pk = 2) => fun h => dyn_err (k := pk) (z := (pt.size : Int)) e1 (M := X) HX.out h)
            obtain ⟨Li, hLi⟩ : ∃ Li, Li = lis (Pz.pt ⟨pk, pt, pos, pn1, pf1, pn2, pf2⟩) := ⟨_, rfl⟩
            obtain ⟨Di, hDi⟩ : ∃ Di, Di = dis (Pz.pt ⟨pk, pt, pos, pn1, pf1, pn2, pf2⟩) := ⟨_, rfl⟩
            rw [← hLi, ← hDi] at HB0 HR0
            have HLi := Lib.hid hLi
            have HDi := Lib.hid hDi
            clear hLi hDi
            go_upto_if 68 with fail
            go_cut [10, 11] (fun s10 s11 wx => ∃ (A3 A4 : Option Addr) (n3 n4 c3 c4 : Nat), s10 = .slice A3 n3 c3 ∧ s11 = .slice A4 n4 c4 ∧ Hid (byL W.heap.size wx A3 n3 Li) ∧ Hid (byL W.heap.size wx A4 n4 Di) ∧ Hid (rwl W.heap.size wx g v3 Y) ∧ Hid (Below W.heap.size W wx) ∧ Hid (Blk wx Z 96 #[.int .i64 pk, .string pt, .slice Ao No co, .slice A1 pn1 q1, .slice A2 pn2 q2]))
            case first =>
              by_cases hk1 : pk = 1
              · subst hk1
                have HF1 := Lib.hid (rFixedLits_any w3)
                have hl1 : Li = fixL := by rw [HLi.out]; exact if_pos rfl
                have hl2 : Di = fixD := by rw [HDi.out]; exact if_pos rfl
                have HL1 := Lib.hid hl1
                have HL2 := Lib.hid hl2
                clear k0 k1 k3 k4 hk hl1 hl2
                go_wp2_with fail
                refine HF1.out.mono ?_
                rintro e w4 ⟨v4, rfl, i4, b4⟩
                obtain ⟨A3, c3, hv3⟩ := ints.form i4
                subst hv3
                obtain ⟨n3, hn3⟩ : ∃ n3, n3 = (ofN fixL).length := ⟨_, rfl⟩
                rw [← hn3] at i4 ⊢
                have L3 := Lib.hid (lst_rowS (B := W.heap.size) (lst_of i4))
                have B4 := Lib.hid b4
                clear i4 b4 HF1 hn3
                go_wp2_with fail
                refine (rFixedDists_any w4).mono ?_
                rintro e w5 ⟨v5, rfl, i5, b5⟩
                obtain ⟨A4, c4, hv4⟩ := ints.form i5
                subst hv4
                obtain ⟨n4, hn4⟩ : ∃ n4, n4 = (ofN fixD).length := ⟨_, rfl⟩
                rw [← hn4] at i5 ⊢
                have L4 := Lib.hid (lst_rowS (B := W.heap.size) (lst_of i5))
                have B5 := Lib.hid b5
                obtain rfl : n3 = 288 := by rw [L3.out.1, fixL_length]
                obtain rfl : n4 = 32 := by rw [L4.out.1, fixD_length]
                have B35 := Lib.hid (grows B4.out B5.out)
                have Y3 : Hid (byL W.heap.size w5 A3 288 Li) := Lib.hid ⟨⟨ix fixL, rowS_below L3.out.2 B5.out, err_fix.1, by rw [HL1.out]; exact L_fix.1⟩, by decide⟩
                have Y4 : Hid (byL W.heap.size w5 A4 32 Di) := Lib.hid ⟨⟨ix fixD, L4.out.2, err_fix.2, by rw [HL2.out]; exact L_fix.2⟩, by decide⟩
                have E5 := Lib.hid (E3.out.below B35.out)
                have BW5 := Lib.hid (grows BW3.out B35.out)
                have K5 := Lib.hid (K3.out.below B35.out)
                clear i5 b5 hn4
                go_wp2_with fail
                go_meet
                exact ⟨A3, A4, 288, 32, c3, c4, rfl, rfl, Y3, Y4, E5, BW5, K5⟩
              · have hk1b : (pk == 1) = false := by simp [hk1]
                have hk2 : pk = 2 := by omega
                have hl1 : Li = L pn1 pf1 := by rw [HLi.out]; exact if_neg (show ¬ pk.toNat = 1 by omega)
                have hl2 : Di = L pn2 pf2 := by rw [HDi.out]; exact if_neg (show ¬ pk.toNat = 1 by omega)
                obtain ⟨z1, z2⟩ := HBD.out hk2 (by have := hXb; simpa using this)
                have Y3 : Hid (byL W.heap.size w3 A1 pn1 Li) := Lib.hid ⟨⟨pf1, rowS_below R1.out BW3.out, z1, hl1.symm⟩, M1.out⟩
                have Y4 : Hid (byL W.heap.size w3 A2 pn2 Di) := Lib.hid ⟨⟨pf2, rowS_below R2.out BW3.out, z2, hl2.symm⟩, M2.out⟩
                clear hl1 hl2 hk2 hk z1 z2 hk1
                go_wp2_with fail
                go_meet
                exact ⟨A1, A2, pn1, pn2, q1, q2, rfl, rfl, Y3, Y4, E3, BW3, K3⟩
            case rest =>
              obtain ⟨A3, A4, n3, n4, c3, c4, rfl, rfl, Y3, Y4, E4, BW4, K4⟩ := hcut
              clear k0 k1 k3 k4 hk HBD HLi HDi
              have HOI := Lib.hid (okI_of pos b HPT.out)
              have HYO : Hid (bl Y + opsB (pos.map Opi.nat) ≤ 50000000) := Lib.hid (by have h1 := HYB.out; have h2 := HBS.out; unfold ptB at h2; have e : (Pz.pt ⟨pk, pt, pos, pn1, pf1, pn2, pf2⟩).ops = pos.map Opi.nat := rfl; rw [e] at h2; omega)
              rw [HB0.out] at HYS HYN
              have hNo8 : No ≤ 2000000 := by have h1 := HYO.out; have h2 := HNO.out; unfold opsB at h1; rw [List.length_map] at h1; omega
              go_wp2_with fail
              go_loopw [12] (fun s12 wx => ∃ (q : Nat) (v6 : Value) (y6 : List (Nat × Nat)), s12 = .int .i64 (q : Int) ∧ q ≤ No ∧ Hid (byL W.heap.size wx A3 n3 Li) ∧ Hid (byL W.heap.size wx A4 n4 Di) ∧ Hid (rwl W.heap.size wx g v6 y6) ∧ Hid (Below W.heap.size W wx) ∧ Hid (Blk wx Z 96 #[.int .i64 pk, .string pt, .slice Ao No co, .slice A1 pn1 q1, .slice A2 pn2 q2]) ∧ Hid (Y ++ encOs Li Di (pos.map Opi.nat) = y6 ++ encOs Li Di ((pos.drop q).map Opi.nat)) ∧ Hid (er = opsE Li Di ((pos.drop q).map Opi.nat)) ∧ Hid (bl y6 + opsB ((pos.drop q).map Opi.nat) ≤ 50000000)) (fun s12 _ => No - (intOf s12).toNat)
              case atStart => exact ⟨0, v3, Y, rfl, Nat.zero_le _, Y3, Y4, E4, BW4, K4, Lib.hid (by rw [List.drop_zero]), Lib.hid (by rw [List.drop_zero]; exact HR0.out), Lib.hid (by rw [List.drop_zero]; exact HYO.out)⟩
              case round =>
                obtain ⟨q, v6, y6, rfl, hq, Y36, Y46, E6, BW6, K6, HY6, HR6, HB6⟩ := hrel
                have z2 : wr.cell? ⟨Z, 2, none⟩ = some (.slice Ao No co) := K6.out.cell 2
                by_cases hqn : q < No
                · have hqn' : (q : Int) < (No : Int) := by omega
                  have hq0 : (0 : Int) ≤ (q : Int) := by omega
                  obtain ⟨o, hoj⟩ : ∃ o, pos[q]? = some o := ⟨_, List.getElem?_eq_getElem (by rw [← HNO.out]; exact hqn)⟩
                  have hdr := map_drop_cons hoj
                  obtain ⟨i1, i2, b2, off2, hA2, hb2, x0, x1, x2⟩ := HRO.out q o hoj
                  subst hA2
                  have hk : ∀ i, wr.cell? ⟨b2, i, none⟩ = W.cell? ⟨b2, i, none⟩ := fun i => BW6.out.cell (p := ⟨b2, i, none⟩) hb2
                  have x0' := (hk _).trans x0
                  have x1' := (hk _).trans x1
                  have x2' := (hk _).trans x2
                  have hoi := HOI.out o (List.mem_of_getElem? hoj)
                  have HSYM := Lib.hid (by
                    obtain ⟨f3, t1, t2, t3⟩ := Y36.out.h
                    obtain ⟨f4, t4, t5, t6⟩ := Y46.out.h
                    have := rsymbols_any (c1 := c3) (c2 := c4) hoi E6.out t1 t2 Y36.out.n t4 t5 Y46.out.n (by have := HB6.out; omega)
                    rw [t3, t6] at this
                    exact this)
                  have HY7 : Hid (hasO Li Di o.nat → Y ++ encOs Li Di (pos.map Opi.nat) = (y6 ++ encO Li Di o.nat) ++ encOs Li Di ((pos.drop (q + 1)).map Opi.nat)) := Lib.hid (fun _ => by rw [HY6.out, hdr, encOs_cons, List.append_assoc])
                  have HR7 : Hid ((hasO Li Di o.nat → er = opsE Li Di ((pos.drop (q + 1)).map Opi.nat)) ∧ (¬ hasO Li Di o.nat → er = 1)) := Lib.hid ⟨fun e => by rw [HR6.out, hdr, opsE_cons, if_pos e], fun e => by rw [HR6.out, hdr, opsE_cons, if_neg e]⟩
                  have HB7 : Hid (bl (y6 ++ encO Li Di o.nat) + opsB ((pos.drop (q + 1)).map Opi.nat) ≤ 50000000) := Lib.hid (by
                    have h1 := HB6.out
                    have h2 := encO_bl Y36.out.ok Y46.out.ok o.nat
                    rw [hdr] at h1
                    unfold opsB at h1 ⊢
                    rw [List.length_cons] at h1
                    rw [bl_append]; omega)
                  have HQN := Lib.hid hqn
                  obtain ⟨onat, hon⟩ : ∃ x, x = o.nat := ⟨_, rfl⟩
                  rw [← hon] at HSYM HY7 HR7 HB7
                  clear hk x0 x1 x2 hoj hdr hb2 i1 i2 hqn hoi hon
                  obtain ⟨x, on, od⟩ := o
                  dsimp only at x0' x1' x2' HSYM
                  obtain ⟨yx, hyx⟩ : ∃ yx : Int, yx = (x.toNat : Int) := ⟨_, rfl⟩
                  rw [← hyx] at x0' HSYM
                  clear hyx
                  go_wp2_with fail
                  refine HSYM.out.mono ?_
                  clear x0' x1' x2' z2
                  rintro e w7 ⟨w6, b6, rfl, v7, l7, hk7, hl7⟩
                  have E66 := Lib.hid (E6.out.below b6)
                  have E7 := Lib.hid hk7.r
                  have BW7 := Lib.hid (E66.out.base hk7.o rfl (grows BW6.out b6))
                  have K7 : Hid (Blk w7 Z 96 #[.int .i64 pk, .string pt, .slice (some ⟨b2, off2, none⟩) No co, .slice A1 pn1 q1, .slice A2 pn2 q2]) := Lib.hid ((K6.out.below b6).only hk7.o (fun e => by rcases E66.out.kind e (K6.out.below b6) with h | h <;> exact absurd h (by decide)))
                  have Y37 := Lib.hid ((Y36.out.below b6).keeps E66.out hk7.o)
                  have Y47 := Lib.hid ((Y46.out.below b6).keeps E66.out hk7.o)
                  by_cases hh : hasO Li Di onat
                  · rw [if_pos hh]
                    have hl := hl7 hh
                    subst hl
                    have HH := Lib.hid hh
                    clear hk7 hl7 b6 HSYM hh
                    go_wp2
                    go_roundw
                    case rel => exact ⟨q + 1, v7, _, by go_num, by have := HQN.out; omega, Y37, Y47, E7, BW7, K7, Lib.hid (HY7.out HH.out), Lib.hid (HR7.out.1 HH.out), HB7⟩
                    case measure => have := HQN.out; simp [intOf]; omega
                  · rw [if_neg hh]
                    have HRE : Hid (R = 1) := Lib.hid (by have e := HR7.out.2 hh; rw [HRZ.out.2 (by rw [e]; decide), e])
                    clear hk7 hl7 b6 HSYM hh
                    go_wp2
                    go_ret2
                    exact ⟨⟨#[]⟩, by rw [HRE.out]; rfl, ⟨fun _ => rfl, fun e => absurd (HRE.out.symm.trans (HR.out.trans e)) (by decide)⟩, BW7.out⟩
                · have hqn' : ¬ (q : Int) < (No : Int) := by omega
                  have hdn : (pos.drop q).map Opi.nat = [] := by rw [List.drop_eq_nil_of_le (by rw [← HNO.out]; omega)]; rfl
                  have HYE : Hid (Y ++ encOs Li Di (pos.map Opi.nat) = y6 ++ [sy Li 256]) := Lib.hid (by rw [HY6.out, hdn]; rfl)
                  have HRE : Hid (er = if has Li 256 then 0 else 1) := Lib.hid (by rw [HR6.out, hdn]; rfl)
                  have HSM := Lib.hid (by
                    obtain ⟨f3, t1, t2, t3⟩ := Y36.out.h
                    have := E6.out.sym (cap := c3) t1.1 t2 Y36.out.n 256 (by have := HB6.out; omega)
                    rw [t3] at this
                    exact this)
                  have HSM2 : Hid (Calls Tryz.prog 56 #[.pointer (some ⟨g, 0, none⟩), .slice A3 n3 c3, .int .i64 256] wr fun e w' => e = .returned (.int .i64 (if has Li 256 then 0 else 1)) ∧ ∃ v', wrt W.heap.size wr g v6 (if has Li 256 then y6 ++ [sy Li 256] else y6) w' v') := HSM
                  clear hqn hdn HSM
                  go_wp2_with fail
                  refine HSM2.out.mono ?_
                  clear z2
                  rintro e w7 ⟨rfl, v7, hk7⟩
                  by_cases hh : has Li 256
                  · rw [if_pos hh] at hk7 ⊢
                    have HRF : Hid (er = 0) := Lib.hid (by rw [HRE.out, if_pos hh])
                    have E7 : Hid (rwl W.heap.size w7 g v7 (Y ++ encOs Li Di (pos.map Opi.nat))) := Lib.hid (by rw [HYE.out]; exact hk7.r)
                    have BW7 := Lib.hid (E6.out.base hk7.o rfl BW6.out)
                    clear hk7 HSM2 hh
                    go_wp2
                    go_roundw
                    case rel => exact ⟨j + 1, v7, _, bn', by go_num, by have := HJN.out; omega, E7, BW7, HYS, Lib.hid (HRZ.out.1 HRF.out), Lib.hid (HYN.out HRF.out), HTN⟩
                    case measure => have := HJN.out; simp [intOf]; omega
                  · rw [if_neg hh] at hk7 ⊢
                    have HRF : Hid (R = 1) := Lib.hid (by have e : er = 1 := by rw [HRE.out, if_neg hh]
                                                          rw [HRZ.out.2 (by rw [e]; decide), e])
                    have BW7 := Lib.hid (E6.out.base hk7.o rfl BW6.out)
                    clear hk7 HSM2 hh
                    go_wp2
                    go_ret2
                    exact ⟨⟨#[]⟩, by rw [HRF.out]; rfl, ⟨fun _ => rfl, fun e => absurd (HRF.out.symm.trans (HR.out.trans e)) (by decide)⟩, BW7.out⟩
        · have hXb : (X != 0) = true := by simp [hX0]
          have HRX : Hid (er = X ∧ er ≠ 0) := Lib.hid (by
            have e : er = X := by
              rw [HER.out, HX.out]
              unfold ptE
              dsimp only
              rw [if_pos (by rw [← HX.out]; exact hX0)]
            exact ⟨e, by rw [e]; exact hX0⟩)
          clear hX0
          go_wp2
          go_ret2
          exact ⟨⟨#[]⟩, by rw [HRZ.out.2 HRX.out.2, HRX.out.1]; rfl, ⟨fun _ => rfl, fun e => absurd ((HRZ.out.2 HRX.out.2).symm.trans (HR.out.trans e)) HRX.out.2⟩, BW3.out⟩
      · have hjn' : ¬ (j : Int) < (N : Int) := by omega
        have hdn : l.drop j = [] := List.drop_eq_nil_of_le (by rw [← HN.out]; omega)
        have HR0 : Hid (R = 0) := Lib.hid (by rw [HRR.out, hdn]; rfl)
        have HY0 : Hid (encPs (l.map Pz.pt) 0 = y) := Lib.hid (by rw [HY.out, hdn]; exact List.append_nil y)
        have HOU := Lib.hid (rwl_out HE.out (by have := HBB.out; omega))
        clear hjn hdn
        go_wp2_with fail
        refine HOU.out.mono ?_
        rintro e w' ⟨S, rfl, hS, bS⟩
        have HS := Lib.hid hS
        have BS := Lib.hid (grows HBW.out bS)
        clear hS bS HOU
        go_wp2
        go_ret2
        exact ⟨S, by rw [HR0.out]; rfl, ⟨fun e => absurd (HR.out.symm.trans HR0.out) e, fun _ => by rw [HY0.out]; exact HS.out⟩, BS.out⟩
  · have hb0 : (te != 0) = true := by simp [h0]
    have HRT : Hid (R = te) := Lib.hid (by
      rw [HR.out]
      unfold encE
      rw [← HT.out, if_pos h0])
    have H0 := Lib.hid h0
    clear h0
    go_enter Tryz.func25, Tryz.ntmps25
    go_wp2_with fail
    refine HTX.out.mono ?_
    rintro e w1 ⟨rfl, b1⟩
    go_wp2
    go_ret2
    exact ⟨⟨#[]⟩, by rw [HRT.out]; rfl, ⟨fun _ => rfl, fun e => absurd ((HRT.out.symm.trans HR.out).trans e) H0.out⟩, b1⟩
end Go.Proofs.YtnkninjdpgpkmaaGreatDoor.Hw
