/-
  collimatorlaw17.NfaMakes: whether trees make an automaton, and of how many states, is as the reference says; it is right; the same trees make one of as many states again.
  Conditions: none. The walk of the call (made by tools/gennfamakes17.py).
-/
import Derived.Test.YthjelilmlbbalaaPba
import Derived.Test.YthjelilmlbbalaaPaw
import Derived.StillTailTactics
import Derived.BigQuiet
import Derived.BigRegion
namespace Go.Proofs.Ythjelilmlbbalaa.Oxmakes
open Go.RowKit Go.PlainAid Go.Proofs.Ythjelilmlbbalaa.Vm Go.Proofs.Ythjelilmlbbalaa.Vo Go.Proofs.Ythjelilmlbbalaa.Bw Go.Proofs.Ythjelilmlbbalaa.Na Go.Proofs.Ythjelilmlbbalaa.Ko Go.Proofs.Ythjelilmlbbalaa.Tm Go.Proofs.Ythjelilmlbbalaa.Rs Go.Proofs.Ythjelilmlbbalaa.Rm Go.Proofs.Ythjelilmlbbalaa.Rv Go.Proofs.Ythjelilmlbbalaa.Ra Go.Proofs.Ythjelilmlbbalaa.Rn Go.Proofs.Ythjelilmlbbalaa.An Go.Proofs.Ythjelilmlbbalaa.Aa Go.Proofs.Ythjelilmlbbalaa.Ab Go.Proofs.Ythjelilmlbbalaa.Ac Go.Proofs.Ythjelilmlbbalaa.Ad Go.Proofs.Ythjelilmlbbalaa.Ae Go.Proofs.Ythjelilmlbbalaa.As Go.Proofs.Ythjelilmlbbalaa.Aw Go.Proofs.Ythjelilmlbbalaa.Ax Go.Proofs.Ythjelilmlbbalaa.Ap Go.Proofs.Ythjelilmlbbalaa.Ao Go.Proofs.Ythjelilmlbbalaa.Ak Go.Proofs.Ythjelilmlbbalaa.Al Go.Proofs.Ythjelilmlbbalaa.Ay Go.Proofs.Ythjelilmlbbalaa.Dm Go.Proofs.Ythjelilmlbbalaa.Dn Go.Proofs.Ythjelilmlbbalaa.Dw Go.Proofs.Ythjelilmlbbalaa.Dx Go.Proofs.Ythjelilmlbbalaa.Oa Go.Proofs.Ythjelilmlbbalaa.Oe Go.Proofs.Ythjelilmlbbalaa.Of Go.Proofs.Ythjelilmlbbalaa.Ol Go.Proofs.Ythjelilmlbbalaa.On Go.Proofs.Ythjelilmlbbalaa.Op Go.Proofs.Ythjelilmlbbalaa.Oq Go.Proofs.Ythjelilmlbbalaa.Du

/-- What both Makes answer: of how many states, and which error; where it is none, an automaton. -/
theorem both {A : Option Addr} {c : Nat} {L : List (List Nd)} {W : World} (w0 : ndr W A L) (hL : L.length ≤ 1000000) (hl : ∀ l ∈ L, l.length ≤ 1000000) : ∃ (N M : Nat) (F X : Int) (AU : Au),
    (∀ u, Below W.heap.size W u → Calls Try.prog 9 #[.slice A L.length c] u fun e w' => ∃ A1 A2 c1 c2, e = .returned (.tuple #[.agg #[.slice A1 N c1, .int .i64 F, .slice A2 M c2], .int .i64 X]) ∧ (X = 0 → nfa w' A1 A2 AU) ∧ Below u.heap.size u w') ∧
    (∀ u, Below W.heap.size W u → Calls Try.prog 10 #[.slice A L.length c] u fun e w' => e = .returned (.tuple #[.int .i64 (N : Int), .int .i64 X]) ∧ Below u.heap.size u w') ∧
    (X = 0 → okA AU ∧ N = AU.E.length ∧ M = AU.R.length ∧ F = AU.first ∧ N ≤ 1000000 ∧ M ≤ 1000000 ∧ ∀ l ∈ AU.E, l.length ≤ 1000000) := by
  have hm : ∀ u, Below W.heap.size W u → Calls Try.prog 9 #[.slice A L.length c] u fun e w' => ansM L u e w' := fun u k => Make_any hL hl (Lib.hid (w0.below k))
  have hr : ∀ u, Below W.heap.size W u → Calls Try.prog 10 #[.slice A L.length c] u fun e w' => e = .returned (.tuple #[.int .i64 (makesQ L).1, .int .i64 (makesQ L).2]) ∧ Below u.heap.size u w' := fun u k => rMakes_any hL hl (Lib.hid (w0.below k))
  by_cases hX : (makesQ L).2 = 0
  · obtain ⟨h, hn⟩ := mkOk_of w0 hX
    have ha := auQ_len h.ok
    have h2 := h.sum
    have h3 := h.s
    have hok : okA (auQ (trs L)) := auQ_ok h.ok (by rw [trs_len]; exact h.l32) (by rw [h2]; exact h.s)
    have hN : (makesQ L).1 = ((auQ (trs L)).E.length : Int) := by rw [hn, ha.1, h2]
    refine ⟨(auQ (trs L)).E.length, (auQ (trs L)).R.length, (auQ (trs L)).first, 0, auQ (trs L), fun u k => (hm u k).mono fun e w' h => ?_, fun u k => ?_, fun _ => ⟨hok, rfl, rfl, rfl, by omega, by omega, au_row h⟩⟩
    · obtain ⟨A1, A2, c1, c2, he, hf⟩ := h.2.2 hX
      exact ⟨A1, A2, c1, c2, he, fun _ => hf, h.1⟩
    · have := hr u k
      rw [hN, hX] at this
      exact this
  · have hz : (makesQ L).1 = 0 := by
      unfold makesQ at hX ⊢
      split <;> first | rfl | skip
      split <;> first | rfl | skip
      split <;> first | rfl | skip
      split <;> first | rfl | skip
      simp_all
    refine ⟨0, 0, 0, (makesQ L).2, ⟨[], 0, []⟩, fun u k => (hm u k).mono fun e w' h => ⟨none, none, 0, 0, h.2.1 hX, fun h0 => absurd h0 hX, h.1⟩, fun u k => ?_, fun h0 => absurd h0 hX⟩
    have := hr u k
    rw [hz] at this
    exact this
set_option maxHeartbeats 4000000 in
set_option maxRecDepth 100000 in
theorem walk (A : Option Addr) (c : Nat) (L : List (List Nd)) (W : World) (_hc : L.length ≤ c) (w0 : ndr W A L) :
    Calls Try.prog 3 #[.slice A L.length c] W fun e w' => e = .returned (.bool true) ∧ Below W.heap.size W w' := by
  have HKN := Lib.hid (fun u => known_any u)
  have HFW : Hid (Calls Try.prog 7 #[.slice A L.length c, .int .i64 200000] W fun e w' => ansF L 200000 W e w') := Lib.hid (rFew_any (cap := c) (most := 200000) (Lib.hid w0))
  have HN := Lib.hid w0
  obtain ⟨n, hn⟩ : ∃ n, n = L.length := ⟨_, rfl⟩
  have Gn := Lib.hid hn
  rw [← hn] at HFW ⊢
  clear hn w0
  go_enter Try.func3, Try.ntmps3
  go_upto_region 2 with (go_at_call 7; refine HFW.out.mono ?_; rintro e u ⟨b, rfl, hb, k⟩; have KW := Lib.hid k; have HB := Lib.hid hb; clear k hb; cases b)
  · go_wp2_with (go_at_call 8; refine (HKN.out _).mono ?_; rintro e u ⟨rfl, k⟩; have KW := Lib.hid (KW.out.trans (k.mono KW.out.size)); clear k)
    go_ret
    exact ⟨rfl, KW.out⟩
  obtain ⟨b1, b2, _⟩ := HB.out trivial
  have hL : L.length ≤ 1000000 := by omega
  have hl : ∀ l ∈ L, l.length ≤ 1000000 := fun l h => by have := b2 l h; omega
  obtain ⟨N, M, F, X, AU, m1, m2, m3⟩ := both (c := c) HN.out hL hl
  rw [← Gn.out] at m1 m2
  have HM1 := Lib.hid m1
  have HM2 := Lib.hid m2
  have HM3 := Lib.hid m3
  have hn : n ≤ 40 := by rw [Gn.out]; exact b1
  have HL := Lib.hid hl
  clear m1 m2 m3 b1 b2 hL hl HB
  go_upto_region 4 with (go_at_call 9; (with_reducible refine (HM1.out _ KW.out).mono ?_); rintro e w4 ⟨A1, A2, c1, c2, rfl, f4, k⟩; have F4 := Lib.hid f4; have KW := Lib.hid (KW.out.trans (k.mono KW.out.size)); clear f4 k)
  obtain ⟨w5, hw5⟩ : ∃ w5, w5 = w4.alloc (.cells #[.slice A1 N c1, .int .i64 F, .slice A2 M c2] 28) := ⟨_, rfl⟩
  obtain ⟨B, hB⟩ : ∃ B, B = w4.heap.size := ⟨_, rfl⟩
  have HBX : Hid (Blk w5 B 28 #[.slice A1 N c1, .int .i64 F, .slice A2 M c2]) := Lib.hid (by rw [hw5, hB]; exact Blk.fresh _ _ _)
  have F5 : Hid (X = 0 → nfa w5 A1 A2 AU) := Lib.hid (fun h => by rw [hw5]; exact (F4.out h).below (below_alloc _ _))
  have KW : Hid (Below W.heap.size W w5) := Lib.hid (by rw [hw5]; exact KW.out.trans ((below_alloc _ _).mono KW.out.size))
  rw [← hw5, ← hB]
  clear hw5 hB F4
  go_upto_region 6 with (go_at_call 10; (with_reducible refine (HM2.out _ KW.out).mono ?_); rintro e w6 ⟨rfl, k⟩; have HBX := Lib.hid (HBX.out.below k); have F5 := Lib.hid (fun h => (F5.out h).below k); have KW := Lib.hid (KW.out.trans (k.mono KW.out.size)); clear k)
  go_loopw [7] (fun s7 wr => ∃ i : Nat, s7 = .int .i64 (i : Int) ∧ i ≤ n ∧ Hid (Below w6.heap.size w6 wr)) (fun s7 _ => n - (intOf s7).toNat)
  case atStart => exact ⟨0, rfl, by omega, Lib.hid (Below.refl _ _)⟩
  case round =>
    obtain ⟨i, rfl, hi, HR⟩ := hrel
    have KW : Hid (Below W.heap.size W wr) := Lib.hid (KW.out.trans (HR.out.mono KW.out.size))
    by_cases hin : i < n
    · have hin' : (i : Int) < (n : Int) := by omega
      obtain ⟨l, hl⟩ : ∃ l, L[i]? = some l := ⟨_, List.getElem?_eq_getElem (by rw [← Gn.out]; exact hin)⟩
      obtain ⟨b, off, rfl, hb, A', c', hcell, hlc, hnd⟩ := HN.out i l hl
      have hll := HL.out l (List.mem_of_getElem? hl)
      obtain ⟨ln, hln⟩ : ∃ ln, ln = l.length := ⟨_, rfl⟩
      obtain ⟨Z, hZ⟩ : ∃ Z : Int, Z = (szL l : Int) := ⟨_, rfl⟩
      have HZ1 : Hid (∀ u, Below W.heap.size W u → Calls Try.prog 11 #[.slice A' ln c'] u fun e w' => e = .returned (.int .i64 Z) ∧ Below u.heap.size u w') := Lib.hid (fun u k => by rw [hln, hZ]; exact Size_any hll hlc (Lib.hid (hnd.below k)))
      have HZ2 : Hid (∀ u, Below W.heap.size W u → Calls Try.prog 12 #[.slice A' ln c'] u fun e w' => e = .returned (.int .i64 Z) ∧ Below u.heap.size u w') := Lib.hid (fun u k => by rw [hln, hZ]; exact rSize_any hll (Lib.hid (hnd.below k)))
      rw [← hln] at hcell
      have y := (KW.out.cell (p := ⟨b, off + i, none⟩) hb).trans hcell
      have HBW0 := Lib.hid (Nat.lt_of_lt_of_le hb KW.out.size)
      have HCY := Lib.hid y
      clear hl hb hcell hlc hnd hll hln hZ hin HN HL HM1 HM2 HM3 F5 HBX Gn HFW
      go_upto_region 8 with fail
      obtain ⟨u0, hu0⟩ : ∃ u0, u0 = wr.drew := ⟨_, rfl⟩
      have hu0' : wr.drew = u0 := hu0.symm
      have HC0 : Hid (u0.cell? ⟨b, off + i, none⟩ = some (.slice A' ln c')) := Lib.hid (by rw [hu0]; exact HCY.out)
      have HBW : Hid (b < u0.heap.size) := Lib.hid (by rw [hu0]; exact HBW0.out)
      have KW : Hid (Below W.heap.size W u0) := Lib.hid (by rw [hu0]; exact below_drew KW.out)
      have KX : Hid (Below wr.heap.size wr u0) := Lib.hid (by rw [hu0]; exact below_drew (Below.refl _ _))
      have KR := Lib.hid (Below.refl u0.heap.size u0)
      have y' := HC0.out
      clear hu0
      go_region_held3 (fun w' => w'.cell? ⟨b, off + i, none⟩ = some (.slice A' ln c'))
        (first | exact y | exact y' | assumption)
        (first | (go_at_call 11; (with_reducible refine (HZ1.out _ KW.out).mono ?_); rintro e u ⟨rfl, k⟩; have KR := Lib.hid (KR.out.trans (k.mono KR.out.size)); have KW := Lib.hid (KW.out.trans (k.mono KW.out.size)); have z : u.cell? ⟨b, off + i, none⟩ = some (.slice A' ln c') := (KR.out.cell (p := ⟨b, off + i, none⟩) HBW.out).trans HC0.out; clear k) | (go_at_call 12; (with_reducible refine (HZ2.out _ KW.out).mono ?_); rintro e u ⟨rfl, k⟩; have KR := Lib.hid (KR.out.trans (k.mono KR.out.size)); have KW := Lib.hid (KW.out.trans (k.mono KW.out.size)); have z : u.cell? ⟨b, off + i, none⟩ = some (.slice A' ln c') := (KR.out.cell (p := ⟨b, off + i, none⟩) HBW.out).trans HC0.out; clear k))
      have HRX := Lib.hid (HR.out.trans ((KX.out.trans (KR.out.mono KX.out.size)).mono HR.out.size))
      go_wp2
      go_roundw
      case rel => exact ⟨i + 1, by go_num, by omega, HRX⟩
      case measure => simp [intOf]; omega
    · have hin' : ¬ (i : Int) < (n : Int) := by omega
      have HBX := Lib.hid (HBX.out.below HR.out)
      have F5 := Lib.hid (fun h => (F5.out h).below HR.out)
      have HRA : Hid (X = 0 → ∀ (A1 A2 : Option Addr) (c1 c2 : Nat) (u0 : World), nfa u0 A1 A2 AU → ∀ u, Below u0.heap.size u0 u → Calls Try.prog 14 #[.agg #[.slice A1 N c1, .int .i64 F, .slice A2 M c2]] u fun e w' => e = .returned (.bool true) ∧ Below u.heap.size u w') := Lib.hid (fun hx A1 A2 c1 c2 u0 f u k => by
        obtain ⟨ho, e1, e2, e3, l1, l2, l3⟩ := HM3.out hx
        rw [e1, e2, e3]
        exact (Right_any (by omega) (by omega) l3 (Lib.hid (f.below k))).mono fun e w' ⟨x, h, hb, k⟩ => ⟨by rw [h, hb.2 ho], k⟩)
      have HRB : Hid (X = 0 → ∀ (A1 A2 : Option Addr) (c1 c2 : Nat) (u0 : World), nfa u0 A1 A2 AU → ∀ u, Below u0.heap.size u0 u → Calls Try.prog 13 #[.agg #[.slice A1 N c1, .int .i64 F, .slice A2 M c2]] u fun e w' => e = .returned (.bool true) ∧ Below u.heap.size u w') := Lib.hid (fun hx A1 A2 c1 c2 u0 f u k => by
        obtain ⟨ho, e1, e2, e3, l1, l2, l3⟩ := HM3.out hx
        rw [e1, e2, e3]
        exact (rRight_any (by omega) (by omega) l3 (Lib.hid (f.below k))).mono fun e w' ⟨x, h, hb, k⟩ => ⟨by rw [h, hb.2 ho], k⟩)
      have q0 := HBX.out.cell 0
      have q1 := HBX.out.cell 1
      have q2 := HBX.out.cell 2
      clear HM3 HN HL hin HR HM2
      by_cases hX : X = 0
      · subst hX
        go_upto_region 13 with (go_at_call 9; (with_reducible refine (HM1.out _ KW.out).mono ?_); rintro e w7 ⟨A3, A4, c3, c4, rfl, f7, k⟩; have F7 := Lib.hid (f7 rfl); have KW := Lib.hid (KW.out.trans (k.mono KW.out.size)); have K7 := Lib.hid k; clear f7 k)
        obtain ⟨w8, hw8⟩ : ∃ w8, w8 = w7.alloc (.cells #[.slice A3 N c3, .int .i64 F, .slice A4 M c4] 28) := ⟨_, rfl⟩
        obtain ⟨B2, hB2⟩ : ∃ B2, B2 = w7.heap.size := ⟨_, rfl⟩
        have HBY : Hid (Blk w8 B2 28 #[.slice A3 N c3, .int .i64 F, .slice A4 M c4]) := Lib.hid (by rw [hw8, hB2]; exact Blk.fresh _ _ _)
        have K8 : Hid (Below wr.heap.size wr w8) := Lib.hid (by rw [hw8]; exact grows K7.out (below_alloc _ _))
        have F8 : Hid (nfa w8 A3 A4 AU) := Lib.hid (by rw [hw8]; exact F7.out.below (below_alloc _ _))
        have F5 := Lib.hid ((F5.out trivial).below K8.out)
        have KW : Hid (Below W.heap.size W w8) := Lib.hid (by rw [hw8]; exact KW.out.trans ((below_alloc _ _).mono KW.out.size))
        have HBX := Lib.hid (HBX.out.below K8.out)
        rw [← hw8, ← hB2]
        clear hw8 hB2 K7 K8 q0 q1 q2 HM1
        have q0 := HBX.out.cell 0
        have q1 := HBX.out.cell 1
        have q2 := HBX.out.cell 2
        have p0 := HBY.out.cell 0
        have p1 := HBY.out.cell 1
        have p2 := HBY.out.cell 2
        have KR := Lib.hid (Below.refl w8.heap.size w8)
        have HR1 := Lib.hid (HRA.out trivial A1 A2 c1 c2 w8 F5.out)
        have HR2 := Lib.hid (HRB.out trivial A1 A2 c1 c2 w8 F5.out)
        clear HRA HRB F5 F8
        go_wp2_with (first | (go_at_call 13; (with_reducible refine (HR2.out _ KR.out).mono ?_); rintro e u ⟨rfl, k⟩; have KR := Lib.hid (KR.out.trans (k.mono KR.out.size)); have KW := Lib.hid (KW.out.trans (k.mono KW.out.size)); clear q0 q1 q2 p0 p1 p2; have q0 := (HBX.out.below KR.out).cell 0; have q1 := (HBX.out.below KR.out).cell 1; have q2 := (HBX.out.below KR.out).cell 2; have p0 := (HBY.out.below KR.out).cell 0; have p1 := (HBY.out.below KR.out).cell 1; have p2 := (HBY.out.below KR.out).cell 2; clear k) | (go_at_call 14; (with_reducible refine (HR1.out _ KR.out).mono ?_); rintro e u ⟨rfl, k⟩; have KR := Lib.hid (KR.out.trans (k.mono KR.out.size)); have KW := Lib.hid (KW.out.trans (k.mono KW.out.size)); clear q0 q1 q2 p0 p1 p2; have q0 := (HBX.out.below KR.out).cell 0; have q1 := (HBX.out.below KR.out).cell 1; have q2 := (HBX.out.below KR.out).cell 2; have p0 := (HBY.out.below KR.out).cell 0; have p1 := (HBY.out.below KR.out).cell 1; have p2 := (HBY.out.below KR.out).cell 2; clear k) | (go_at_call 8; (with_reducible refine (HKN.out _).mono ?_); rintro e u ⟨rfl, k⟩; have KR := Lib.hid (KR.out.trans (k.mono KR.out.size)); have KW := Lib.hid (KW.out.trans (k.mono KW.out.size)); clear q0 q1 q2 p0 p1 p2; have q0 := (HBX.out.below KR.out).cell 0; have q1 := (HBX.out.below KR.out).cell 1; have q2 := (HBX.out.below KR.out).cell 2; have p0 := (HBY.out.below KR.out).cell 0; have p1 := (HBY.out.below KR.out).cell 1; have p2 := (HBY.out.below KR.out).cell 2; clear k))
        go_ret
        exact ⟨rfl, KW.out⟩
      · clear F5 HRA HRB
        go_upto_region 13 with (go_at_call 9; (with_reducible refine (HM1.out _ KW.out).mono ?_); rintro e w7 ⟨A3, A4, c3, c4, rfl, f7, k⟩; have KW := Lib.hid (KW.out.trans (k.mono KW.out.size)); have K7 := Lib.hid k; clear f7 k)
        obtain ⟨w8, hw8⟩ : ∃ w8, w8 = w7.alloc (.cells #[.slice A3 N c3, .int .i64 F, .slice A4 M c4] 28) := ⟨_, rfl⟩
        obtain ⟨B2, hB2⟩ : ∃ B2, B2 = w7.heap.size := ⟨_, rfl⟩
        have HBY : Hid (Blk w8 B2 28 #[.slice A3 N c3, .int .i64 F, .slice A4 M c4]) := Lib.hid (by rw [hw8, hB2]; exact Blk.fresh _ _ _)
        have K8 : Hid (Below wr.heap.size wr w8) := Lib.hid (by rw [hw8]; exact grows K7.out (below_alloc _ _))
        have KW : Hid (Below W.heap.size W w8) := Lib.hid (by rw [hw8]; exact KW.out.trans ((below_alloc _ _).mono KW.out.size))
        have HBX := Lib.hid (HBX.out.below K8.out)
        rw [← hw8, ← hB2]
        clear hw8 hB2 K7 K8 q0 q1 q2 HM1
        have q0 := HBX.out.cell 0
        have q1 := HBX.out.cell 1
        have q2 := HBX.out.cell 2
        have p0 := HBY.out.cell 0
        have p1 := HBY.out.cell 1
        have p2 := HBY.out.cell 2
        have KR := Lib.hid (Below.refl w8.heap.size w8)
        go_wp2_with (first | (go_at_call 8; (with_reducible refine (HKN.out _).mono ?_); rintro e u ⟨rfl, k⟩; have KR := Lib.hid (KR.out.trans (k.mono KR.out.size)); have KW := Lib.hid (KW.out.trans (k.mono KW.out.size)); clear q0 q1 q2 p0 p1 p2; have q0 := (HBX.out.below KR.out).cell 0; have q1 := (HBX.out.below KR.out).cell 1; have q2 := (HBX.out.below KR.out).cell 2; have p0 := (HBY.out.below KR.out).cell 0; have p1 := (HBY.out.below KR.out).cell 1; have p2 := (HBY.out.below KR.out).cell 2; clear k))
        go_ret
        exact ⟨rfl, KW.out⟩
end Go.Proofs.Ythjelilmlbbalaa.Oxmakes
