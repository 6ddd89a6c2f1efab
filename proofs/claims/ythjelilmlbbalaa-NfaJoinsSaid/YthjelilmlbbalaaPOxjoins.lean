/-
  collimatorlaw17.NfaJoins: of trees together each is told just where it is told alone.
  Conditions: none. The walk of the call (made by tools/gennfajoins17.py).
-/
import Derived.Test.YthjelilmlbbalaaPOr
import Derived.Test.YthjelilmlbbalaaPaw
import Derived.StillTailTactics
import Derived.BigQuiet
import Derived.BigRegion
namespace Go.Proofs.Ythjelilmlbbalaa.Oxjoins
open Go.RowKit Go.PlainAid Go.Proofs.Ythjelilmlbbalaa.Vm Go.Proofs.Ythjelilmlbbalaa.Vo Go.Proofs.Ythjelilmlbbalaa.Bw Go.Proofs.Ythjelilmlbbalaa.Na Go.Proofs.Ythjelilmlbbalaa.Ko Go.Proofs.Ythjelilmlbbalaa.Tm Go.Proofs.Ythjelilmlbbalaa.Rs Go.Proofs.Ythjelilmlbbalaa.Rm Go.Proofs.Ythjelilmlbbalaa.Rv Go.Proofs.Ythjelilmlbbalaa.Ra Go.Proofs.Ythjelilmlbbalaa.Rn Go.Proofs.Ythjelilmlbbalaa.An Go.Proofs.Ythjelilmlbbalaa.Aa Go.Proofs.Ythjelilmlbbalaa.Ab Go.Proofs.Ythjelilmlbbalaa.Ac Go.Proofs.Ythjelilmlbbalaa.Ad Go.Proofs.Ythjelilmlbbalaa.Ae Go.Proofs.Ythjelilmlbbalaa.As Go.Proofs.Ythjelilmlbbalaa.Aw Go.Proofs.Ythjelilmlbbalaa.Ax Go.Proofs.Ythjelilmlbbalaa.Ap Go.Proofs.Ythjelilmlbbalaa.Ao Go.Proofs.Ythjelilmlbbalaa.Ak Go.Proofs.Ythjelilmlbbalaa.Al Go.Proofs.Ythjelilmlbbalaa.Ay Go.Proofs.Ythjelilmlbbalaa.Dm Go.Proofs.Ythjelilmlbbalaa.Dn Go.Proofs.Ythjelilmlbbalaa.Dw Go.Proofs.Ythjelilmlbbalaa.Dx Go.Proofs.Ythjelilmlbbalaa.Oa Go.Proofs.Ythjelilmlbbalaa.Oe Go.Proofs.Ythjelilmlbbalaa.Of Go.Proofs.Ythjelilmlbbalaa.Ol Go.Proofs.Ythjelilmlbbalaa.On Go.Proofs.Ythjelilmlbbalaa.Op Go.Proofs.Ythjelilmlbbalaa.Oq Go.Proofs.Ythjelilmlbbalaa.Or

set_option maxRecDepth 100000 in
/-- A part of one tree of a row of trees. -/
theorem cut_tree {b off n cap i : Nat} (h2 : i < n) (h3 : n ≤ cap) (u : World) :
    (Instr.slice 22 (.slice (some ⟨b, off, none⟩) n cap) (some (.int .i64 (i : Int))) (some (.int .i64 ((i : Int) + 1))) none).run Try.prog u = .ok (.slice (some ⟨b, off + i, none⟩) 1 (cap - i)) u := by
  have c8 : ∀ w, (Go.sizeOf 35).run Try.prog w = .ok 1 w := fun w => by first | exact Try.sizeOf35 w | kernel_rfl
  have g1 : (0 : Int) ≤ (i : Int) := by omega
  have g2 : (i : Int) ≤ (i : Int) + 1 := by omega
  have g3 : (i : Int) + 1 ≤ (cap : Int) := by omega
  have g4 : ¬ (cap = i) := by omega
  have e : (⟨b, off, none⟩ : Addr).add (i * 1) = ⟨b, off + i, none⟩ := by unfold Addr.add; split <;> simp_all
  have e' : (⟨b, off, none⟩ : Addr).add i = ⟨b, off + i, none⟩ := by unfold Addr.add; split <;> simp_all
  have e1 : ((i : Int) + 1 - (i : Int)).toNat = 1 := by omega
  have e2 : ((i : Int) + 1).toNat = i + 1 := by omega
  have e3 : i + 1 - i = 1 := by omega
  go_simp
  first | done | (simp [e, e', e1, e2, e3]; done) | (simp [g4, e, e', e1, e2, e3]; done) | (simp [g4, e, e', e1, e2, e3]; omega)
theorem wpList_cutT {w : World} {ops : Array Oper} {rest : List Oper} {o : Oper} {a : Act} {Q : Exit → Act → World → Prop} (hgd : o.guard = none) (y i j : Operand) (ho : o.op = .slice 22 y (some i) (some j) none)
    (V I J R : Value) (hV : a.eval y = V) (hI : a.eval i = I) (hJ : a.eval j = J) (hr : ∀ u : World, (Instr.slice 22 V (some I) (some J) none).run Try.prog u = .ok R u) (h : wpList Try.prog ops Q rest (a.put o.dst R) w) : wpList Try.prog ops Q (o :: rest) a w := by
  refine wpList_plain hgd fun K hK => ?_
  have e : (Instr.sliceAt 22 V (some I) (some J) none).run Try.prog w = .ok R w := by
    rw [← hr w]; simp [Instr.sliceAt, run_underlying Try.underlying22]
  unfold Oper.wp execOp
  simp only [ho, Sem.run_bind, Sem.run_pure, Result.andThen_ok, hV, hI, hJ, Option.map_some, Option.map_none, e]
  exact hK _ _ h
/-- One tree alone: what Make and Run answer. -/
theorem lone {A : Option Addr} {c : Nat} {L : List (List Nd)} {W : World} {s : ByteArray} (w0 : ndr W A L) (hl : ∀ l ∈ L, l.length ≤ 1000000) (hs : s.size ≤ 1000000) (hmk : mkOk L) {i b off : Nat} {l : List Nd} (hi : L[i]? = some l) (hA : A = some ⟨b, off, none⟩) : ∃ (N M : Nat) (F : Int) (AU : Au),
    (∀ u, Below W.heap.size W u → Calls Try.prog 9 #[.slice (some ⟨b, off + i, none⟩) 1 (c - i)] u fun e w' => ∃ A1 A2 c1 c2, e = .returned (.tuple #[.agg #[.slice A1 N c1, .int .i64 F, .slice A2 M c2], .int .i64 0]) ∧ nfa w' A1 A2 AU ∧ Below u.heap.size u w') ∧
    (∀ (A1 A2 : Option Addr) (c1 c2 : Nat) (u : World), nfa u A1 A2 AU → Calls Try.prog 16 #[.agg #[.slice A1 N c1, .int .i64 F, .slice A2 M c2], .string s] u fun e w' => ∃ X n x, e = .returned (.slice X n x) ∧ (0 < n ↔ isM (trs L) (nb s.data.toList) i) ∧ Below u.heap.size u w') := by
  have hX := makes_one hmk hi w0
  have h := mk_one hmk hi
  have ha := auQ_len h.ok
  have h2 := h.sum
  have h3 := h.s
  have hll := hl l (List.mem_of_getElem? hi)
  have hrow := au_row h
  refine ⟨(auQ (trs [l])).E.length, (auQ (trs [l])).R.length, (auQ (trs [l])).first, auQ (trs [l]), fun u k => ?_, fun A1 A2 c1 c2 u f => ?_⟩
  · have hn : ndr u (some ⟨b, off + i, none⟩) [l] := fun j x hj => by
      match j, hj with
      | 0, hj =>
        obtain rfl := Option.some.inj hj
        obtain ⟨b', off', e, hb, A', c', hc, hlc, hnd⟩ := (w0.below k) i _ hi
        rw [hA] at e
        injection e with e
        injection e with e1 e2
        subst e1 e2
        exact ⟨b, off + i, rfl, hb, A', c', hc, hlc, hnd⟩
    refine (Make_any (L := [l]) (by simp) (fun x hx => by obtain rfl := List.mem_singleton.1 hx; exact hll) (Lib.hid hn)).mono fun e w' hh => ?_
    obtain ⟨A1, A2, c1, c2, he, hf⟩ := hh.2.2 hX
    exact ⟨A1, A2, c1, c2, he, hf, hh.1⟩
  · refine (Run_any (by omega) (by omega) hrow hs (Lib.hid f)).mono fun e w' hh => ?_
    obtain ⟨X, n, x, C, h1, h2, h3, _, _, h6⟩ := ansU_of hh
    exact ⟨X, n, x, h1, by rw [h3]; exact alone hmk hi h2, h6⟩
set_option maxHeartbeats 4000000 in
set_option maxRecDepth 100000 in
theorem walk (A : Option Addr) (c : Nat) (L : List (List Nd)) (s : ByteArray) (W : World) (hc : L.length ≤ c) (w0 : ndr W A L) (_w1 : s.size ≤ maxLen) :
    Calls Try.prog 6 #[.slice A L.length c, .string s] W fun e w' => e = .returned (.bool true) ∧ Below W.heap.size W w' := by
  have HKN := Lib.hid (fun u => known_any u)
  have HFW : Hid (Calls Try.prog 7 #[.slice A L.length c, .int .i64 300] W fun e w' => ansF L 300 W e w') := Lib.hid (rFew_any (cap := c) (most := 300) (Lib.hid w0))
  have HN := Lib.hid w0
  obtain ⟨n, hn⟩ : ∃ n, n = L.length := ⟨_, rfl⟩
  have Gn := Lib.hid hn
  rw [← hn] at HFW hc ⊢
  have HCC := Lib.hid hc
  clear hn w0 hc
  go_enter Try.func6, Try.ntmps6
  by_cases h4 : 20 < s.size
  · have h4' : (20 : Int) < (s.size : Int) := by omega
    go_upto_region 2 with (go_at_call 7; refine HFW.out.mono ?_; rintro e u ⟨b, rfl, hb, k⟩; have KW := Lib.hid k; have HB := Lib.hid hb; clear k hb; cases b)
    all_goals go_wp2_with (go_at_call 8; refine (HKN.out _).mono ?_; rintro e u ⟨rfl, k⟩; have KW := Lib.hid (KW.out.trans (k.mono KW.out.size)); clear k)
    all_goals go_ret
    all_goals exact ⟨rfl, KW.out⟩
  have h4' : ¬ (20 : Int) < (s.size : Int) := by omega
  go_upto_region 2 with (go_at_call 7; refine HFW.out.mono ?_; rintro e u ⟨b, rfl, hb, k⟩; have KW := Lib.hid k; have HB := Lib.hid hb; clear k hb; cases b)
  · go_wp2_with (go_at_call 8; refine (HKN.out _).mono ?_; rintro e u ⟨rfl, k⟩; have KW := Lib.hid (KW.out.trans (k.mono KW.out.size)); clear k)
    go_ret
    exact ⟨rfl, KW.out⟩
  obtain ⟨b1, b2, _⟩ := HB.out trivial
  have hL : L.length ≤ 1000000 := by omega
  have hn : n ≤ 40 := by rw [Gn.out]; exact b1
  have hl : ∀ l ∈ L, l.length ≤ 1000000 := fun l h => by have := b2 l h; omega
  have hs : s.size ≤ 1000000 := by omega
  by_cases hX : (makesQ L).2 = 0
  · have hmk := (mkOk_of HN.out hX).1
    have hlen := au_row hmk
    have hau := auQ_len hmk.ok
    have h3 := hmk.s
    have h2 := hmk.sum
    have HQ : Hid (∀ (C : List Int), isU (auQ (trs L)) (rul (auQ (trs L)) (runs (auQ (trs L)).E (auQ (trs L)).first.toNat (nb s.data.toList))) C → isL C (isM (trs L) (nb s.data.toList))) := Lib.hid (fun C h => run_isM hmk _ h)
    have HLT : Hid (∀ r, isM (trs L) (nb s.data.toList) r → r < n) := Lib.hid (fun r h => by rw [Gn.out]; exact isM_lt h)
    have HLN : Hid (∀ (i b off : Nat) (l : List Nd), L[i]? = some l → A = some ⟨b, off, none⟩ → _) := Lib.hid (fun i b off l hi hA => lone (c := c) HN.out hl hs hmk hi hA)
    have hMK : ∀ u, Below W.heap.size W u → Calls Try.prog 9 #[.slice A n c] u fun e w' => ∃ A1 A2 c1 c2, e = .returned (.tuple #[nv A1 A2 c1 c2 (auQ (trs L)), .int .i64 0]) ∧ nfa w' A1 A2 (auQ (trs L)) ∧ Below u.heap.size u w' := fun u k => by
      rw [Gn.out]
      refine (Make_any hL hl (Lib.hid (HN.out.below k))).mono fun e w' h => ?_
      obtain ⟨A1, A2, c1, c2, he, hf⟩ := h.2.2 hX
      exact ⟨A1, A2, c1, c2, he, hf, h.1⟩
    obtain ⟨P, hP⟩ : ∃ P, P = isM (trs L) (nb s.data.toList) := ⟨_, rfl⟩
    rw [← hP] at HQ HLT
    simp only [← hP] at HLN
    obtain ⟨AU, hAU⟩ : ∃ AU, AU = auQ (trs L) := ⟨_, rfl⟩
    rw [← hAU] at hMK HQ hlen hau
    have hE : AU.E.length ≤ 1000000 := by omega
    have hM : AU.R.length ≤ 1000000 := by omega
    obtain ⟨N, hN⟩ : ∃ N, N = AU.E.length := ⟨_, rfl⟩
    obtain ⟨M, hM'⟩ : ∃ M, M = AU.R.length := ⟨_, rfl⟩
    obtain ⟨F, hF⟩ : ∃ F, F = AU.first := ⟨_, rfl⟩
    have hRU : ∀ (A1 A2 : Option Addr) (c1 c2 : Nat) (u : World), nfa u A1 A2 AU → Calls Try.prog 16 #[.agg #[.slice A1 N c1, .int .i64 F, .slice A2 M c2], .string s] u fun e w' => ∃ X n x C, e = .returned (.slice X n x) ∧ isL C P ∧ n = C.length ∧ row w' X n (at0 C) ∧ Below u.heap.size u w' := fun A1 A2 c1 c2 u f => by
      rw [hN, hM', hF]
      refine (Run_any hE hM hlen hs (Lib.hid f)).mono fun e w' h => ?_
      obtain ⟨X, n, x, C, h1, h2, h3, h4, _, h6⟩ := ansU_of h
      exact ⟨X, n, x, C, h1, HQ.out C h2, h3, h4, h6⟩
    unfold nv at hMK
    rw [← hN, ← hM', ← hF] at hMK
    have HMK := Lib.hid hMK
    have HRU := Lib.hid hRU
    clear hmk hlen hau h3 h2 hMK hRU hE hM hN hM' hF hAU hP hX b1 b2 hL hl hs h4 HB HQ
    go_upto_region 4 with (go_at_call 9; (with_reducible refine (HMK.out _ KW.out).mono ?_); rintro e w4 ⟨A1, A2, c1, c2, rfl, f4, k⟩; have F4 := Lib.hid f4; have KW := Lib.hid (KW.out.trans (k.mono KW.out.size)); clear f4 k)
    obtain ⟨w5, hw5⟩ : ∃ w5, w5 = w4.alloc (.cells #[.slice A1 N c1, .int .i64 F, .slice A2 M c2] 28) := ⟨_, rfl⟩
    obtain ⟨B, hB⟩ : ∃ B, B = w4.heap.size := ⟨_, rfl⟩
    have HBX : Hid (Blk w5 B 28 #[.slice A1 N c1, .int .i64 F, .slice A2 M c2]) := Lib.hid (by rw [hw5, hB]; exact Blk.fresh _ _ _)
    have F5 : Hid (nfa w5 A1 A2 AU) := Lib.hid (by rw [hw5]; exact F4.out.below (below_alloc _ _))
    have KW : Hid (Below W.heap.size W w5) := Lib.hid (by rw [hw5]; exact KW.out.trans ((below_alloc _ _).mono KW.out.size))
    rw [← hw5, ← hB]
    clear hw5 hB F4
    have q0 := HBX.out.cell 0
    have q1 := HBX.out.cell 1
    have q2 := HBX.out.cell 2
    go_upto_region 9 with (go_at_call 16; (with_reducible refine (HRU.out _ _ _ _ _ F5.out).mono ?_); rintro e w6 ⟨X, m, x, C, rfl, hC, hm, hr, k⟩; have HC := Lib.hid hC; have Gm := Lib.hid hm; have HRX := Lib.hid hr; have KW := Lib.hid (KW.out.trans (k.mono KW.out.size)); clear q0 q1 q2 hC hm hr k)
    have HG0 := Lib.hid (gone_zero HC.out)
    clear F5 HBX HRU HMK
    go_loopw [8, 9] (fun s8 s9 wr => ∃ i a : Nat, s9 = .int .i64 (i : Int) ∧ s8 = .int .i64 (a : Int) ∧ i ≤ n ∧ Hid (gone C a i) ∧ Hid (Below w6.heap.size w6 wr)) (fun _ s9 _ => n - (intOf s9).toNat)
    case atStart => exact ⟨0, 0, rfl, rfl, by omega, HG0, Lib.hid (Below.refl _ _)⟩
    case round =>
      obtain ⟨i, a, rfl, rfl, hi, HG, HR⟩ := hrel
      have KW : Hid (Below W.heap.size W wr) := Lib.hid (KW.out.trans (HR.out.mono KW.out.size))
      have HRX := Lib.hid (HRX.out.below HR.out)
      have hle := HG.out.le
      rw [← Gm.out] at hle
      have hm63 : m ≤ 40 := by have := HC.out.len HLT.out; rw [← Gm.out] at this; omega
      by_cases hin : i < n
      · have hin' : (i : Int) < (n : Int) := by omega
        obtain ⟨l, hl⟩ : ∃ l, L[i]? = some l := ⟨_, List.getElem?_eq_getElem (by rw [← Gn.out]; exact hin)⟩
        obtain ⟨b, off, rfl, hb, A', c', hcell, hlc, hnd⟩ := HN.out i l hl
        obtain ⟨N1, M1, F1, AU1, o1, o2⟩ := HLN.out i b off l hl rfl
        have HO1 := Lib.hid o1
        have HO2 := Lib.hid o2
        have HCUT := Lib.hid (fun u => cut_tree (b := b) (off := off) hin HCC.out u)
        clear hb hcell hlc hnd o1 o2 hl HLN HN HLT HG0
        by_cases hta : C[a]? = some (i : Int)
        · obtain ⟨hp, hg⟩ := HG.out.yes HC.out hta
          have HGN := Lib.hid hg
          have ham : (a : Int) < (m : Int) := by have := (List.getElem?_eq_some_iff.1 hta).1; rw [← Gm.out] at this; omega
          obtain ⟨bX, oX, rfl, hbX, hcX⟩ := HRX.out a (by omega)
          have hat : at0 C a = (i : Int) := by have := at0_get (List.getElem?_eq_some_iff.1 hta).1; rw [hta] at this; exact (Option.some.inj this).symm
          rw [hat] at hcX
          have HBX2 := Lib.hid hbX
          have HCX := Lib.hid hcX
          have HPI := Lib.hid hp
          clear hp hg hat hbX hcX hta
          go_upto_region 12 with (first | (refine wpList_cutT rfl (.tmp 41) (.tmp 42) (.tmp 44) rfl (.slice (some ⟨b, off, none⟩) n c) (.int .i64 (i : Int)) (.int .i64 ((i : Int) + 1)) (.slice (some ⟨b, off + i, none⟩) 1 (c - i)) rfl rfl rfl HCUT.out ?_) | (go_at_call 9; (with_reducible refine (HO1.out _ KW.out).mono ?_); rintro e w4 ⟨A1, A2, c1, c2, rfl, f4, k⟩; have F4 := Lib.hid f4; have K4 := Lib.hid k; clear f4 k))
          obtain ⟨w5, hw5⟩ : ∃ w5, w5 = w4.alloc (.cells #[.slice A1 N1 c1, .int .i64 F1, .slice A2 M1 c2] 28) := ⟨_, rfl⟩
          obtain ⟨B, hB⟩ : ∃ B, B = w4.heap.size := ⟨_, rfl⟩
          have HBX : Hid (Blk w5 B 28 #[.slice A1 N1 c1, .int .i64 F1, .slice A2 M1 c2]) := Lib.hid (by rw [hw5, hB]; exact Blk.fresh _ _ _)
          have F5 : Hid (nfa w5 A1 A2 AU1) := Lib.hid (by rw [hw5]; exact F4.out.below (below_alloc _ _))
          have KR : Hid (Below wr.heap.size wr w5) := Lib.hid (by rw [hw5]; exact grows K4.out (below_alloc _ _))
          rw [← hw5, ← hB]
          clear hw5 hB F4 K4
          have q0 := HBX.out.cell 0
          have q1 := HBX.out.cell 1
          have q2 := HBX.out.cell 2
          go_wp2_with (go_at_call 16; (with_reducible refine (HO2.out _ _ _ _ _ F5.out).mono ?_); rintro e u ⟨X3, n3, x3, rfl, h3, k⟩; have H3 := Lib.hid h3; have KR := Lib.hid (grows KR.out k); clear h3 k; have hpos : (0 : Int) < (n3 : Int) := (by have := H3.out.2 HPI.out; omega); have hpos' : 0 < n3 := (by omega); have g3 := (KR.out.cell (p := ⟨bX, oX + a, none⟩) HBX2.out).trans HCX.out)
          go_roundw
          case rel => exact ⟨i + 1, a + 1, by go_num, by go_num, by omega, HGN, Lib.hid (HR.out.trans (KR.out.mono HR.out.size))⟩
          case measure => simp [intOf]; omega
        · by_cases ham : a < m
          · obtain ⟨hp, hg⟩ := HG.out.no HC.out hta
            have HGN := Lib.hid hg
            have ham' := ham
            have ham : (a : Int) < (m : Int) := by omega
            obtain ⟨bX, oX, rfl, hbX, hcX⟩ := HRX.out a ham'
            obtain ⟨y, hy⟩ : ∃ y, y = at0 C a := ⟨_, rfl⟩
            have hne : ¬ y = (i : Int) := fun e => hta (by rw [at0_get (by rw [← Gm.out]; exact ham'), ← hy, e])
            have hne' : (y == (i : Int)) = false := by simpa using hne
            rw [← hy] at hcX
            have HBX2 := Lib.hid hbX
            have HCX := Lib.hid hcX
            have HPI := Lib.hid hp
            clear hp hg hy hbX hcX hta ham'
            go_upto_region 12 with (first | (refine wpList_cutT rfl (.tmp 41) (.tmp 42) (.tmp 44) rfl (.slice (some ⟨b, off, none⟩) n c) (.int .i64 (i : Int)) (.int .i64 ((i : Int) + 1)) (.slice (some ⟨b, off + i, none⟩) 1 (c - i)) rfl rfl rfl HCUT.out ?_) | (go_at_call 9; (with_reducible refine (HO1.out _ KW.out).mono ?_); rintro e w4 ⟨A1, A2, c1, c2, rfl, f4, k⟩; have F4 := Lib.hid f4; have K4 := Lib.hid k; clear f4 k))
            obtain ⟨w5, hw5⟩ : ∃ w5, w5 = w4.alloc (.cells #[.slice A1 N1 c1, .int .i64 F1, .slice A2 M1 c2] 28) := ⟨_, rfl⟩
            obtain ⟨B, hB⟩ : ∃ B, B = w4.heap.size := ⟨_, rfl⟩
            have HBX : Hid (Blk w5 B 28 #[.slice A1 N1 c1, .int .i64 F1, .slice A2 M1 c2]) := Lib.hid (by rw [hw5, hB]; exact Blk.fresh _ _ _)
            have F5 : Hid (nfa w5 A1 A2 AU1) := Lib.hid (by rw [hw5]; exact F4.out.below (below_alloc _ _))
            have KR : Hid (Below wr.heap.size wr w5) := Lib.hid (by rw [hw5]; exact grows K4.out (below_alloc _ _))
            rw [← hw5, ← hB]
            clear hw5 hB F4 K4
            have q0 := HBX.out.cell 0
            have q1 := HBX.out.cell 1
            have q2 := HBX.out.cell 2
            go_wp2_with (go_at_call 16; (with_reducible refine (HO2.out _ _ _ _ _ F5.out).mono ?_); rintro e u ⟨X3, n3, x3, rfl, h3, k⟩; have H3 := Lib.hid h3; have KR := Lib.hid (grows KR.out k); clear h3 k; have hz3 : ¬ 0 < n3 := (fun h => HPI.out (H3.out.1 h)); obtain rfl : n3 = 0 := (by omega); clear hz3; have g3 := (KR.out.cell (p := ⟨bX, oX + a, none⟩) HBX2.out).trans HCX.out)
            go_roundw
            case rel => exact ⟨i + 1, a, by go_num, rfl, by omega, HGN, Lib.hid (HR.out.trans (KR.out.mono HR.out.size))⟩
            case measure => simp [intOf]; omega
          · obtain ⟨hp, hg⟩ := HG.out.no HC.out hta
            have HGN := Lib.hid hg
            have ham : ¬ (a : Int) < (m : Int) := by omega
            have HPI := Lib.hid hp
            clear hp hg hta
            go_upto_region 12 with (first | (refine wpList_cutT rfl (.tmp 41) (.tmp 42) (.tmp 44) rfl (.slice (some ⟨b, off, none⟩) n c) (.int .i64 (i : Int)) (.int .i64 ((i : Int) + 1)) (.slice (some ⟨b, off + i, none⟩) 1 (c - i)) rfl rfl rfl HCUT.out ?_) | (go_at_call 9; (with_reducible refine (HO1.out _ KW.out).mono ?_); rintro e w4 ⟨A1, A2, c1, c2, rfl, f4, k⟩; have F4 := Lib.hid f4; have K4 := Lib.hid k; clear f4 k))
            obtain ⟨w5, hw5⟩ : ∃ w5, w5 = w4.alloc (.cells #[.slice A1 N1 c1, .int .i64 F1, .slice A2 M1 c2] 28) := ⟨_, rfl⟩
            obtain ⟨B, hB⟩ : ∃ B, B = w4.heap.size := ⟨_, rfl⟩
            have HBX : Hid (Blk w5 B 28 #[.slice A1 N1 c1, .int .i64 F1, .slice A2 M1 c2]) := Lib.hid (by rw [hw5, hB]; exact Blk.fresh _ _ _)
            have F5 : Hid (nfa w5 A1 A2 AU1) := Lib.hid (by rw [hw5]; exact F4.out.below (below_alloc _ _))
            have KR : Hid (Below wr.heap.size wr w5) := Lib.hid (by rw [hw5]; exact grows K4.out (below_alloc _ _))
            rw [← hw5, ← hB]
            clear hw5 hB F4 K4
            have q0 := HBX.out.cell 0
            have q1 := HBX.out.cell 1
            have q2 := HBX.out.cell 2
            go_wp2_with (go_at_call 16; (with_reducible refine (HO2.out _ _ _ _ _ F5.out).mono ?_); rintro e u ⟨X3, n3, x3, rfl, h3, k⟩; have H3 := Lib.hid h3; have KR := Lib.hid (grows KR.out k); clear h3 k; have hz3 : ¬ 0 < n3 := (fun h => HPI.out (H3.out.1 h)); obtain rfl : n3 = 0 := (by omega); clear hz3)
            go_roundw
            case rel => exact ⟨i + 1, a, by go_num, rfl, by omega, HGN, Lib.hid (HR.out.trans (KR.out.mono HR.out.size))⟩
            case measure => simp [intOf]; omega
      · have hin' : ¬ (i : Int) < (n : Int) := by omega
        obtain rfl : i = n := by omega
        obtain rfl : a = m := by rw [Gm.out]; exact HG.out.end HC.out HLT.out
        clear HLN HN HLT HG0 HG HRX
        go_wp2_with (go_at_call 8; refine (HKN.out _).mono ?_; rintro e u ⟨rfl, k⟩; have KW := Lib.hid (KW.out.trans (k.mono KW.out.size)); clear k)
        go_ret
        exact ⟨rfl, KW.out⟩
  · have HMK : Hid (∀ u, Below W.heap.size W u → Calls Try.prog 9 #[.slice A n c] u fun e w' => e = .returned (.tuple #[.agg #[.slice none 0 0, .int .i64 0, .slice none 0 0], .int .i64 (makesQ L).2]) ∧ Below u.heap.size u w') := Lib.hid (fun u k => by rw [Gn.out]; exact (Make_any hL hl (Lib.hid (HN.out.below k))).mono fun e w' h => ⟨h.2.1 hX, h.1⟩)
    obtain ⟨X, hXX⟩ : ∃ X, X = (makesQ L).2 := ⟨_, rfl⟩
    rw [← hXX] at HMK hX
    clear hXX b1 b2 hL hl hs h4 HB
    go_wp2_with (first | (go_at_call 9; (with_reducible refine (HMK.out _ KW.out).mono ?_); rintro e u ⟨rfl, k⟩; have KW := Lib.hid (KW.out.trans (k.mono KW.out.size)); clear k) | (go_at_call 8; refine (HKN.out _).mono ?_; rintro e u ⟨rfl, k⟩; have KW := Lib.hid (KW.out.trans ((grows (below_alloc _ _) k).mono KW.out.size)); clear k))
    go_ret
    exact ⟨rfl, KW.out⟩
end Go.Proofs.Ythjelilmlbbalaa.Oxjoins
