/-
  block.readCode: the table of the code of lengths, or what is wrong.
  block.readLengths: the lengths of a dynamic head, or what is wrong.
  block.readHead and block.Read, of any head.
  Conditions: as each theorem says.
-/
import Derived.Test.YtnkninjdpgpkmaaGreatDoorBaz
import Derived.Test.YtnkninjdpgpkmaaGreatDoorBak
import Derived.Test.YtnkninjdpgpkmaaGreatDoorBbh
import Derived.Test.YtnkninjdpgpkmaaGreatDoorBbs
namespace Go.Proofs.YtnkninjdpgpkmaaGreatDoor.Kx
open Go.RowKit Go.Proofs.YtnkninjdpgpkmaaGreatDoor.Vm Go.Proofs.YtnkninjdpgpkmaaGreatDoor.Vo Go.Proofs.YtnkninjdpgpkmaaGreatDoor.Bw Go.Proofs.YtnkninjdpgpkmaaGreatDoor.Bm Go.Proofs.YtnkninjdpgpkmaaGreatDoor.Br Go.Proofs.YtnkninjdpgpkmaaGreatDoor.Bs Go.Proofs.YtnkninjdpgpkmaaGreatDoor.Na Go.Proofs.YtnkninjdpgpkmaaGreatDoor.Nf Go.Proofs.YtnkninjdpgpkmaaGreatDoor.Nh Go.Proofs.YtnkninjdpgpkmaaGreatDoor.Ne Go.Proofs.YtnkninjdpgpkmaaGreatDoor.Nm Go.Proofs.YtnkninjdpgpkmaaGreatDoor.Pm Go.Proofs.YtnkninjdpgpkmaaGreatDoor.Pg Go.Proofs.YtnkninjdpgpkmaaGreatDoor.Ph Go.Proofs.YtnkninjdpgpkmaaGreatDoor.Ko Go.Proofs.YtnkninjdpgpkmaaGreatDoor.Ka Go.Proofs.YtnkninjdpgpkmaaGreatDoor.Kb Go.Proofs.YtnkninjdpgpkmaaGreatDoor.Km Go.Proofs.YtnkninjdpgpkmaaGreatDoor.Ks Go.Proofs.YtnkninjdpgpkmaaGreatDoor.Kc Go.Proofs.YtnkninjdpgpkmaaGreatDoor.Kd Go.Proofs.YtnkninjdpgpkmaaGreatDoor.Ke Go.Proofs.YtnkninjdpgpkmaaGreatDoor.Ky

theorem _root_.Go.Proofs.YtnkninjdpgpkmaaGreatDoor.Ky.ordM.only {S : Nat → Prop} {w w' : World} (h : ordM w) (k : Only S w w') (hne : ¬ S 0) : ordM w' := by
  refine ⟨Nat.lt_of_lt_of_le h.1 k.size, fun i hi => ?_⟩
  have hb := k.block 0 h.1 hne
  have := h.2 i hi
  unfold World.cell? at this ⊢
  simp only [hb]
  exact this
theorem _root_.Go.Proofs.YtnkninjdpgpkmaaGreatDoor.Ky.ordM.reader {w w' : World} {g : Nat} {s : ByteArray} {a : Nat} (h : ordM w) (hr : rd w g s a) (k : Only (At g) w w') : ordM w' := by
  refine h.only k (fun e => ?_)
  obtain rfl : g = 0 := Eq.symm e
  have h0 := h.2 0 (by omega)
  have h1 : w.cell? ⟨0, 0, none⟩ = some (.pointer (some ⟨0, 0, none⟩)) := hr.c0
  rw [h0] at h1
  cases h1

set_option maxHeartbeats 1000000 in
set_option maxRecDepth 100000 in
theorem readCode_any {w : World} {g : Nat} {s : ByteArray} {b k : Nat} {z : Int} (hz : z = (k : Int)) (h : rd w g s b) (hO : ordM w) (hs : s.size ≤ 281474976710656) (hb : b ≤ 8 * s.size) (hk4 : 4 ≤ k) (hk : k ≤ 19) :
    Calls Tryz.prog 178 #[.pointer (some ⟨g, 0, none⟩), .int .i64 z] w fun e w' => Only (At g) w w' ∧
      ((8 * s.size - b < 3 * k ∧ e = .returned (.tuple #[.pointer none, .int .i64 2])) ∨
       (¬ 8 * s.size - b < 3 * k ∧ fit 19 (clI (num s.data.toList) b k) false ≠ 0 ∧ e = .returned (.tuple #[.pointer none, .int .i64 (fit 19 (clI (num s.data.toList) b k) false)])) ∨
       (¬ 8 * s.size - b < 3 * k ∧ fit 19 (clI (num s.data.toList) b k) false = 0 ∧ ∃ t, e = .returned (.tuple #[.pointer (some ⟨t, 0, none⟩), .int .i64 0]) ∧ tabl w' t 19 (L 19 (clI (num s.data.toList) b k)) ∧ rd w' g s (b + 3 * k))) := by
  subst hz
  have H := Lib.hid h
  have HO := Lib.hid hO
  have HS := Lib.hid hs
  have HB := Lib.hid hb
  have hg := Lib.hid h.lt
  obtain ⟨M, hM⟩ : ∃ M, M = 8 * s.size := ⟨_, rfl⟩
  have HM := Lib.hid hM
  have hbM : b ≤ M := by omega
  rw [← hM]
  clear h hO hs hb hM
  go_enter Tryz.func178, Tryz.ntmps178
  go_wp2_with fail
  refine (equal_any 0 (n := 19) 19 rfl (by omega) (by omega) w).mono ?_
  rintro e w1 ⟨h, rfl, k1, p1, b1⟩
  have HP := Lib.hid p1
  have K1 : Hid (Blk w1 h 3 (arr 19 (clI (num s.data.toList) b 0))) := Lib.hid (by
    rw [arr_congr (g := clI (num s.data.toList) b 0) (fun i _ => by simp [clI, clM])] at k1
    exact k1)
  have B1 := Lib.hid b1
  clear k1 b1 p1
  go_wp2_with fail
  go_loopw [13] (fun s13 wr => ∃ i : Nat, s13 = .int .i64 (i : Int) ∧ i ≤ k ∧ b + 3 * i ≤ M ∧ Hid (Blk wr h 3 (arr 19 (clI (num s.data.toList) b i))) ∧ Hid (rd wr g s (b + 3 * i)) ∧ Hid (ordM wr) ∧ Hid (Only (At g) w wr)) (fun s13 _ => k - (intOf s13).toNat)
  case atStart => exact ⟨0, rfl, by omega, by omega, K1, Lib.hid (H.out.below B1.out), Lib.hid (HO.out.below B1.out), Lib.hid (Only.of_below B1.out)⟩
  case round =>
    obtain ⟨i, rfl, hi, hiM, KB, RD, OM, OO⟩ := hrel
    clear K1
    by_cases hik : i < k
    · have hik' : (i : Int) < (k : Int) := by omega
      by_cases hsh : M - (b + 3 * i) < 3
      · have HSH : Hid (M - b < 3 * k) := Lib.hid (by omega)
        go_wp2_with fail
        refine (Bits_short (m := 3) rfl (by omega) RD.out HS.out (by rw [← HM.out]; exact hiM) (by rw [← HM.out]; exact hsh)).mono ?_
        rintro e w2 ⟨rfl, r2, o2⟩
        have O2 := Lib.hid o2
        clear r2 o2
        go_wp2
        go_ret2
        exact ⟨OO.out.trans O2.out, .inl ⟨HSH.out, rfl⟩⟩
      · obtain ⟨y, hy⟩ : ∃ y, y = peekN (num s.data.toList) (b + 3 * i) 3 := ⟨_, rfl⟩
        have HY := Lib.hid hy
        obtain ⟨o, ho⟩ : ∃ o, o = ord i := ⟨_, rfl⟩
        have ho19 : o < 19 := by rw [ho]; exact ord_lt i (by omega)
        have HOD := Lib.hid ho
        go_wp2_with fail
        refine (Bits_has (m := 3) rfl (by omega) RD.out HS.out (by rw [← HM.out]; omega)).mono ?_
        rintro e w2 ⟨rfl, r2, o2⟩
        rw [← HY.out]
        have R2 := Lib.hid r2
        have O2 := Lib.hid o2
        have OM2 := Lib.hid (OM.out.reader RD.out o2)
        have hhg : Hid (h ≠ g) := Lib.hid (by have := HP.out; have := hg.out; omega)
        have KB2 : Hid (Blk w2 h 3 (arr 19 (clI (num s.data.toList) b i))) := Lib.hid (KB.out.only o2 (fun e => hhg.out e))
        have c1 : w2.cell? ⟨0, i, none⟩ = some (.int .i64 (o : Int)) := by rw [OM2.out.2 i (by omega), ← HOD.out]
        have c2 : w2.cell? ⟨h, o, none⟩ = some (.int .i64 (clI (num s.data.toList) b i o)) := by rw [KB2.out.cell, arr_get _ ho19]
        have f2 := KB2.out.frozen o
        clear r2 o2 ho hy
        go_wp2
        go_roundw
        case rel =>
          have hgh := HP.out
          refine ⟨i + 1, by go_num, by omega, by omega, Lib.hid ?_, Lib.hid ?_, Lib.hid ?_, Lib.hid ?_⟩
          · have h3 := KB2.out.store o (.int .i64 (y : Int))
            rw [arr_set, arr_congr (g := clI (num s.data.toList) b (i + 1)) (fun j _ => by
              unfold clI
              rw [clM, ← HOD.out, ← HY.out]
              by_cases e : j = o
              · rw [if_pos e, if_pos e]
              · rw [if_neg e, if_neg e])] at h3
            exact h3
          · exact R2.out.only ((Only.refl (At h) w2).store (p := ⟨h, o, none⟩) (.inl rfl) _) (fun e => hhg.out e.symm)
          · exact OM2.out.only ((Only.refl (At h) w2).store (p := ⟨h, o, none⟩) (.inl rfl) _) (fun e => by have : 0 = h := e; have := HO.out.1; omega)
          · exact (OO.out.trans O2.out).store (p := ⟨h, o, none⟩) (.inr hgh) _
        case measure => simp [intOf]; omega
    · obtain rfl : i = k := by omega
      have hlong : ¬ M - b < 3 * i := by omega
      have HLO := Lib.hid hlong
      have HF := Lib.hid (Fits_any (cap := 19) (n := 19) false (by omega) (Lib.hid (row_of_blk KB.out)))
      obtain ⟨y, hy⟩ : ∃ y, y = fit 19 (clI (num s.data.toList) b i) false := ⟨_, rfl⟩
      rw [← hy] at HF
      have HYE := Lib.hid hy
      by_cases hy0 : y = 0
      · have HE := Lib.hid (fit_zero (hy.symm.trans hy0))
        subst hy0
        clear hy hlong
        go_wp2_with fail
        refine HF.out.mono ?_
        rintro e w2 ⟨rfl, b2⟩
        have B2 := Lib.hid b2
        clear b2
        go_wp2_with fail
        refine (New_ok (cap := 19) HE.out (Lib.hid (row_of_blk (KB.out.below B2.out)))).mono ?_
        rintro e w3 ⟨t, rfl, t3, p3, b3⟩
        have T3 := Lib.hid t3
        have B3 := Lib.hid b3
        clear t3 p3 b3
        go_wp2
        go_ret2
        exact ⟨(OO.out.trans (Only.of_below B2.out)).trans (Only.of_below B3.out), .inr (.inr ⟨HLO.out, HYE.out.symm, t, rfl, T3.out, (RD.out.below B2.out).below B3.out⟩)⟩
      · have hy1 : (y != 0) = true := by simpa using hy0
        have HY0 := Lib.hid hy0
        clear hy hlong hy0
        go_wp2_with fail
        refine HF.out.mono ?_
        rintro e w2 ⟨rfl, b2⟩
        have B2 := Lib.hid b2
        clear b2
        go_wp2
        go_ret2
        exact ⟨OO.out.trans (Only.of_below B2.out), .inr (.inl ⟨HLO.out, by rw [← HYE.out]; exact HY0.out, by rw [← HYE.out]; rfl⟩)⟩
end Go.Proofs.YtnkninjdpgpkmaaGreatDoor.Kx
namespace Go.Proofs.YtnkninjdpgpkmaaGreatDoor.Kz
open Go.Proofs.YtnkninjdpgpkmaaGreatDoor Go.RowKit Go.Proofs.YtnkninjdpgpkmaaGreatDoor.Vm Go.Proofs.YtnkninjdpgpkmaaGreatDoor.Vo Go.Proofs.YtnkninjdpgpkmaaGreatDoor.Bw Go.Proofs.YtnkninjdpgpkmaaGreatDoor.Bm Go.Proofs.YtnkninjdpgpkmaaGreatDoor.Br Go.Proofs.YtnkninjdpgpkmaaGreatDoor.Bs Go.Proofs.YtnkninjdpgpkmaaGreatDoor.Na Go.Proofs.YtnkninjdpgpkmaaGreatDoor.Nf Go.Proofs.YtnkninjdpgpkmaaGreatDoor.Nh Go.Proofs.YtnkninjdpgpkmaaGreatDoor.Ne Go.Proofs.YtnkninjdpgpkmaaGreatDoor.Nm Go.Proofs.YtnkninjdpgpkmaaGreatDoor.Pm Go.Proofs.YtnkninjdpgpkmaaGreatDoor.Pg Go.Proofs.YtnkninjdpgpkmaaGreatDoor.Ph Go.Proofs.YtnkninjdpgpkmaaGreatDoor.Ko Go.Proofs.YtnkninjdpgpkmaaGreatDoor.Ka Go.Proofs.YtnkninjdpgpkmaaGreatDoor.Kb Go.Proofs.YtnkninjdpgpkmaaGreatDoor.Km Go.Proofs.YtnkninjdpgpkmaaGreatDoor.Ks Go.Proofs.YtnkninjdpgpkmaaGreatDoor.Kc Go.Proofs.YtnkninjdpgpkmaaGreatDoor.Kd Go.Proofs.YtnkninjdpgpkmaaGreatDoor.Ke Go.Proofs.YtnkninjdpgpkmaaGreatDoor.Ky Go.Proofs.YtnkninjdpgpkmaaGreatDoor.Kx Go.Proofs.YtnkninjdpgpkmaaGreatDoor.Kq Go.Proofs.YtnkninjdpgpkmaaGreatDoor.Ku

theorem peek14 (N a : Nat) : peekN N a 14 % 32 = peekN N a 5 ∧ peekN N a 14 / 32 % 32 = peekN N (a + 5) 5 ∧ peekN N a 14 / 1024 = peekN N (a + 10) 4 := by
  have h1 := peekN_add N a 5 9
  have h2 := peekN_add N (a + 5) 5 4
  have l1 := peekN_lt N a 5
  have l2 := peekN_lt N (a + 5) 5
  rw [show 5 + 9 = 14 from rfl] at h1
  rw [show 5 + 4 = 9 from rfl, show a + 5 + 5 = a + 10 from rfl] at h2
  omega
theorem fitsI_parts {l : List Nat} {X D : Nat} (hX : X + D = l.length) (h256 : 256 < X) : fitsI X (ix l) D (fun i => ix l (X + i)) = fitsM (l.take X) (l.drop X) := by
  have e1 : ∀ i, i < X → ix l i = ix (l.take X) i := fun i hi => by
    unfold ix nth
    rw [List.getD_eq_getElem?_getD, List.getD_eq_getElem?_getD, List.getElem?_take, if_pos hi]
  have e2 : ∀ i, i < D → ix l (X + i) = ix (l.drop X) i := fun i _ => by
    unfold ix nth
    rw [List.getD_eq_getElem?_getD, List.getD_eq_getElem?_getD, List.getElem?_drop]
  have l1 : (l.take X).length = X := by rw [List.length_take]; omega
  have l2 : (l.drop X).length = D := by rw [List.length_drop]; omega
  unfold fitsM fitsI
  rw [l1, l2, e1 256 h256, fit_congr true e1, fit_congr true e2]
theorem upto_parts {l : List Nat} {X D : Nat} (hX : X + D = l.length) : upto X (ix l) = ofN (l.take X) ∧ upto D (fun i => ix l (X + i)) = ofN (l.drop X) := by
  constructor
  · apply List.ext_getElem?
    intro i
    by_cases h : i < X
    · rw [upto_get _ h]
      unfold ofN ix nth
      rw [List.getElem?_map, List.getElem?_take, if_pos h, List.getD_eq_getElem?_getD, List.getElem?_eq_getElem (by omega)]
      rfl
    · rw [List.getElem?_eq_none (by rw [upto_length]; omega), List.getElem?_eq_none (by rw [ofN_length, List.length_take]; omega)]
  · apply List.ext_getElem?
    intro i
    by_cases h : i < D
    · rw [upto_get _ h]
      unfold ofN ix nth
      rw [List.getElem?_map, List.getElem?_drop, List.getD_eq_getElem?_getD, List.getElem?_eq_getElem (by omega)]
      rfl
    · rw [List.getElem?_eq_none (by rw [upto_length]; omega), List.getElem?_eq_none (by rw [ofN_length, List.length_drop]; omega)]
theorem cutL {g n cap X : Nat} {z : Int} (hz : z = (X : Int)) (hx : X < cap) (hxn : X ≤ n) (u : World) : (Instr.slice 22 (.slice (some ⟨g, 0, none⟩) n cap) (some (.int .i64 z)) none none).run Tryz.prog u = .ok (.slice (some ⟨g, X, none⟩) (n - X) (cap - X)) u := by
  subst hz; exact cut_low hx hxn rfl u
theorem cutH {A : Option Addr} {n cap X : Nat} {z : Int} (hz : z = (X : Int)) (hx : X ≤ cap) (u : World) : (Instr.slice 22 (.slice A n cap) none (some (.int .i64 z)) none).run Tryz.prog u = .ok (.slice A X cap) u := by
  subst hz; exact cut_high hx u
section
variable {w : World} {g : Nat} {s : ByteArray} {a : Nat}
set_option maxRecDepth 100000 in
theorem len_short (h : rd w g s a) (hs : s.size ≤ 281474976710656) (ha : a ≤ 8 * s.size) (hl : 8 * s.size - a < 14) : Calls Tryz.prog 148 #[.pointer (some ⟨g, 0, none⟩)] w (rdL g s a w) := by
  have HS := Lib.hid (show dynM (num s.data.toList) (8 * s.size) a = (2, ([], []), 0) by unfold dynM; rw [if_pos hl])
  go_enter Tryz.func148, Tryz.ntmps148
  go_wp2_with fail
  refine (Bits_short (m := 14) rfl (by omega) h hs ha hl).mono ?_
  rintro e w2 ⟨rfl, r2, o2⟩
  go_wp2
  go_ret3
  exact ⟨none, 0, 0, none, 0, 0, by rw [HS.out]; rfl, fun e => (by rw [HS.out] at e; cases e), o2⟩
set_option maxRecDepth 100000 in
theorem len_big (h : rd w g s a) (hs : s.size ≤ 281474976710656) (hl : ¬ 8 * s.size - a < 14) (ha : a ≤ 8 * s.size) (hbg : 29 < peekN (num s.data.toList) a 5 ∨ 29 < peekN (num s.data.toList) (a + 5) 5) : Calls Tryz.prog 148 #[.pointer (some ⟨g, 0, none⟩)] w (rdL g s a w) := by
  have HS := Lib.hid (show dynM (num s.data.toList) (8 * s.size) a = (3, ([], []), 0) by unfold dynM; rw [if_neg hl, if_pos hbg])
  obtain ⟨q1, q2, q3⟩ := peek14 (num s.data.toList) a
  obtain ⟨v, hv⟩ : ∃ v, v = peekN (num s.data.toList) a 14 := ⟨_, rfl⟩
  obtain ⟨x, hx⟩ : ∃ x, x = peekN (num s.data.toList) a 5 := ⟨_, rfl⟩
  obtain ⟨y, hy⟩ : ∃ y, y = peekN (num s.data.toList) (a + 5) 5 := ⟨_, rfl⟩
  have hx32 : x < 32 := by rw [hx]; exact peekN_lt _ _ _
  have hy32 : y < 32 := by rw [hy]; exact peekN_lt _ _ _
  have hv14 : v < 16384 := by rw [hv]; exact peekN_lt _ _ _
  rw [← hv, ← hx] at q1
  rw [← hv, ← hy] at q2
  rw [← hx, ← hy] at hbg
  have e1 : (v : Int) % 32 = (x : Int) := by omega
  have e2 : (v : Int) / 32 % 32 = (y : Int) := by omega
  have HV := Lib.hid hv
  have H := Lib.hid h
  clear q1 q2 q3 hv hx hy h
  by_cases hx29 : 29 < x
  · have t1 : (286 : Int) < 257 + (x : Int) := by omega
    go_enter Tryz.func148, Tryz.ntmps148
    go_wp2_with fail
    refine (Bits_has (m := 14) rfl (by omega) H.out hs (by omega)).mono ?_
    rintro e w2 ⟨rfl, r2, o2⟩
    rw [← HV.out]
    go_wp2
    go_ret3
    exact ⟨none, 0, 0, none, 0, 0, by rw [HS.out]; rfl, fun e => (by rw [HS.out] at e; cases e), o2⟩
  · have t1 : ¬ (286 : Int) < 257 + (x : Int) := by omega
    have t2 : (30 : Int) < 1 + (y : Int) := by omega
    go_enter Tryz.func148, Tryz.ntmps148
    go_wp2_with fail
    refine (Bits_has (m := 14) rfl (by omega) H.out hs (by omega)).mono ?_
    rintro e w2 ⟨rfl, r2, o2⟩
    rw [← HV.out]
    go_wp2
    go_ret3
    exact ⟨none, 0, 0, none, 0, 0, by rw [HS.out]; rfl, fun e => (by rw [HS.out] at e; cases e), o2⟩

set_option maxHeartbeats 2000000 in
set_option maxRecDepth 100000 in
theorem len_more (h : rd w g s a) (hO : ordM w) (hs : s.size ≤ 281474976710656) (hl : ¬ 8 * s.size - a < 14) (ha : a ≤ 8 * s.size) (hbg : ¬ (29 < peekN (num s.data.toList) a 5 ∨ 29 < peekN (num s.data.toList) (a + 5) 5)) : Calls Tryz.prog 148 #[.pointer (some ⟨g, 0, none⟩)] w (rdL g s a w) := by
  obtain ⟨q1, q2, q3⟩ := peek14 (num s.data.toList) a
  obtain ⟨v, hv⟩ : ∃ v, v = peekN (num s.data.toList) a 14 := ⟨_, rfl⟩
  obtain ⟨x, hx⟩ : ∃ x, x = peekN (num s.data.toList) a 5 := ⟨_, rfl⟩
  obtain ⟨y, hy⟩ : ∃ y, y = peekN (num s.data.toList) (a + 5) 5 := ⟨_, rfl⟩
  obtain ⟨u, hu⟩ : ∃ u, u = peekN (num s.data.toList) (a + 10) 4 := ⟨_, rfl⟩
  have hu16 : u < 16 := by rw [hu]; exact peekN_lt _ _ _
  have hv14 : v < 16384 := by rw [hv]; exact peekN_lt _ _ _
  have HD0 := Lib.hid (show dynM (num s.data.toList) (8 * s.size) a = (if 8 * s.size - (a + 14) < 3 * (u + 4) then (2, ([], []), 0)
      else if fit 19 (clI (num s.data.toList) (a + 14) (u + 4)) false ≠ 0 then (fit 19 (clI (num s.data.toList) (a + 14) (u + 4)) false, ([], []), 0)
      else
        let r := seqM (L 19 (clI (num s.data.toList) (a + 14) (u + 4))) (num s.data.toList) (8 * s.size) (x + 257 + (y + 1)) (a + 14 + 3 * (u + 4)) []
        if r.1 ≠ 0 then (r.1, ([], []), 0)
        else if fitsM (r.2.1.take (x + 257)) (r.2.1.drop (x + 257)) ≠ 0 then (fitsM (r.2.1.take (x + 257)) (r.2.1.drop (x + 257)), ([], []), 0)
        else (0, (r.2.1.take (x + 257), r.2.1.drop (x + 257)), r.2.2)) by unfold dynM; rw [if_neg hl, if_neg hbg, ← hx, ← hy, ← hu])
  rw [← hv, ← hx] at q1
  rw [← hv, ← hy] at q2
  rw [← hv, ← hu] at q3
  rw [← hx, ← hy] at hbg
  have e1 : (v : Int) % 32 = (x : Int) := by omega
  have e2 : (v : Int) / 32 % 32 = (y : Int) := by omega
  have e3 : (v : Int) / 1024 = (u : Int) := by omega
  have t1 : ¬ (286 : Int) < 257 + (x : Int) := by omega
  have t2 : ¬ (30 : Int) < 1 + (y : Int) := by omega
  have hx29 : x ≤ 29 := by omega
  have hy29 : y ≤ 29 := by omega
  have HV := Lib.hid hv
  have H := Lib.hid h
  have HO := Lib.hid hO
  clear q1 q2 q3 hv hx hy hu h hO hbg
  go_enter Tryz.func148, Tryz.ntmps148
  go_wp2_with fail
  refine (Bits_has (m := 14) rfl (by omega) H.out hs (by omega)).mono ?_
  rintro e w2 ⟨rfl, r2, o2⟩
  rw [← HV.out]
  have R2 := Lib.hid r2
  have O2 := Lib.hid o2
  have OM2 := Lib.hid (HO.out.reader H.out o2)
  clear r2 o2
  go_wp2_with fail
  refine (readCode_any (k := u + 4) (by omega) R2.out OM2.out hs (by omega) (by omega) (by omega)).mono ?_
  rintro e w3 ⟨o3, hc⟩
  have O3 := Lib.hid o3
  have O23 : Hid (Only (At g) w w3) := Lib.hid (O2.out.trans o3)
  clear o3
  rcases hc with ⟨hc, rfl⟩ | ⟨hc, hc2, rfl⟩ | ⟨hc, hc2, t, rfl, t3, r3⟩
  · have HS : Hid (dynM (num s.data.toList) (8 * s.size) a = (2, ([], []), 0)) := Lib.hid (by rw [HD0.out, if_pos hc])
    clear hc
    go_wp2
    go_ret3
    exact ⟨none, 0, 0, none, 0, 0, by rw [HS.out]; rfl, fun e => (by rw [HS.out] at e; cases e), O23.out⟩
  · obtain ⟨f, hf⟩ : ∃ f, f = fit 19 (clI (num s.data.toList) (a + 14) (u + 4)) false := ⟨_, rfl⟩
    have HS : Hid (dynM (num s.data.toList) (8 * s.size) a = (f, ([], []), 0)) := Lib.hid (by rw [HD0.out, if_neg hc, if_pos hc2, hf])
    rw [← hf] at hc2 ⊢
    have hne : (f != 0) = true := by simpa using hc2
    have HNE := Lib.hid hc2
    clear hc hc2 hf
    go_wp2
    go_ret3
    exact ⟨none, 0, 0, none, 0, 0, by rw [HS.out]; rfl, fun e => absurd (by rw [HS.out] at e; exact e) HNE.out, O23.out⟩
  · have he := fit_zero hc2
    obtain ⟨_, _, hks⟩ := err_zero he
    obtain ⟨C, hC⟩ : ∃ C, C = L 19 (clI (num s.data.toList) (a + 14) (u + 4)) := ⟨_, rfl⟩
    have h15 : ∀ j, nth C j ≤ 15 := fun j => by rw [hC]; exact clI_le _ _ _ j
    have hCl : C.length = 19 := by rw [hC, L_length]
    rw [← hC] at t3 hks
    obtain ⟨X, hX⟩ : ∃ X, X = x + 257 := ⟨_, rfl⟩
    obtain ⟨D, hD⟩ : ∃ D, D = y + 1 := ⟨_, rfl⟩
    have hX1 : X ≤ 286 := by omega
    have hX2 : 257 ≤ X := by omega
    have hD1 : 1 ≤ D := by omega
    have hD2 : D ≤ 30 := by omega
    have eX : (257 : Int) + (x : Int) = (X : Int) := by omega
    have EX := Lib.hid eX
    clear eX
    obtain ⟨R, hR⟩ : ∃ R, R = seqM C (num s.data.toList) (8 * s.size) (X + D) (a + 14 + 3 * (u + 4)) [] := ⟨_, rfl⟩
    have HDY : Hid (dynM (num s.data.toList) (8 * s.size) a = (if R.1 ≠ 0 then (R.1, ([], []), 0)
        else if fitsM (R.2.1.take X) (R.2.1.drop X) ≠ 0 then (fitsM (R.2.1.take X) (R.2.1.drop X), ([], []), 0)
        else (0, (R.2.1.take X, R.2.1.drop X), R.2.2))) := Lib.hid (by
      rw [HD0.out, if_neg hc, if_neg (by rw [hc2]; exact fun h => h rfl), ← hC, ← hX, ← hD, hR])
    have hp3 : a + 14 + 3 * (u + 4) ≤ 8 * s.size := by omega
    have HRF : Hid (R.1 = 0 → R.2.1.length = X + D) := Lib.hid (fun h0 => by
      rw [hR] at h0 ⊢
      exact (seq_facts h15 _ _ [] (Nat.le_refl _) (by simp) (fun x hx => by cases hx) hp3 h0).1)
    obtain ⟨w4, hw4⟩ : ∃ w4, w4 = w3.alloc (.cells #[.pointer (some ⟨g, 0, none⟩), .pointer (some ⟨t, 0, none⟩), .slice none 0 0, .int .i64 (257 + (x : Int) + (1 + (y : Int)))] 232) := ⟨_, rfl⟩
    have b4 : Below w3.heap.size w3 w4 := by rw [hw4]; exact below_alloc _ _
    have s4 : sq w3.heap.size w4 w3.heap.size g t (.slice none 0 0) [] (X + D) := ⟨by
      rw [hw4, show (257 + (x : Int) + (1 + (y : Int))) = ((X + D : Nat) : Int) by omega]; exact Blk.fresh _ _ _, ints_nil _ _ _, Nat.le_refl _⟩
    have hgl := r3.lt
    have HQ := Lib.hid (Kv.read_any h15 hks hCl s4 (r3.below b4) (Go.Proofs.YtnkninjdpgpkmaaGreatDoor.Ph.tabl.below t3 b4) hs hp3 (by omega) hgl b4.size)
    rw [← hR] at HQ
    have O4 : Hid (Only (At g) w w4) := Lib.hid (O23.out.trans (Only.of_below b4))
    have S34 : Hid (w.heap.size ≤ w3.heap.size) := Lib.hid O23.out.size
    have HGL := Lib.hid hgl
    clear hc hc2 he hks hC h15 hCl t3 r3 hR b4 s4 hgl hX hD
    go_wp2_with fail
    rw [← hw4]
    refine HQ.out.mono ?_
    rintro e w5 ⟨rfl, i5, o5⟩
    have O5 : Hid (Only (At g) w w5) := Lib.hid (Only.then O4.out o5 (fun i hi hlt => by
      rcases hi with e | e
      · exact e
      · have := S34.out; omega))
    have I5 := Lib.hid i5
    clear i5 o5 hw4
    obtain ⟨x1, hx1⟩ : ∃ x1, x1 = R.1 := ⟨_, rfl⟩
    rw [← hx1]
    by_cases hx10 : x1 = 0
    · obtain ⟨v5, s5, r5⟩ := I5.out (hx1.symm.trans hx10)
      have hlen := HRF.out (hx1.symm.trans hx10)
      obtain ⟨A5, c5, hv5⟩ := s5.form
      rw [hlen] at hv5
      subst hv5
      obtain ⟨b, hA5⟩ : ∃ b, A5 = some ⟨b, 0, none⟩ := by
        rcases s5.o.2 with ⟨e0, h0⟩ | ⟨b, cap, _, e1, _⟩
        · rw [ofN_length] at h0; omega
        · injection e1 with e1 _ _
          exact ⟨b, e1⟩
      subst hA5
      have hc5 : X + D ≤ c5 := by
        obtain ⟨_, cc, e, hle⟩ := s5.o.le
        injection e with _ _ e
        rw [ofN_length, hlen] at hle
        omega
      have hrow : row w5 (some ⟨b, 0, none⟩) (X + D) (ix R.2.1) := by
        have h := s5.o.row
        rw [ofN_length, hlen] at h
        exact h.congr (fun i _ => ofN_at _ i)
      have row1 : row w5 (some ⟨b, 0, none⟩) X (ix R.2.1) := fun i hi => hrow i (by omega)
      have row2 : row w5 (some ⟨b, X, none⟩) D (fun i => ix R.2.1 (X + i)) := fun i hi => by
        obtain ⟨b', off, e, hb, hcell⟩ := hrow (X + i) (by omega)
        injection e with e
        injection e with e1 e2 _
        subst e1; subst e2
        exact ⟨b, X, rfl, hb, by rw [Nat.zero_add] at hcell; exact hcell⟩
      have k2 : w5.cell? ⟨w3.heap.size, 2, none⟩ = some (.slice (some ⟨b, 0, none⟩) (X + D) c5) := s5.b.cell 2
      have hcut1 := fun u => cutH (A := some ⟨b, 0, none⟩) (n := X + D) (cap := c5) EX.out (by omega) u
      have hcut2 := fun u => cutL (g := b) (n := X + D) (cap := c5) EX.out (by omega) (by omega) u
      rw [Nat.add_sub_cancel_left] at hcut2
      obtain ⟨c6, hc6⟩ : ∃ c6, c6 = c5 - X := ⟨_, rfl⟩
      rw [← hc6] at hcut2
      have FP := Lib.hid (fitsI_parts (l := R.2.1) (X := X) (D := D) hlen.symm (by omega))
      have UP := Lib.hid (upto_parts (l := R.2.1) (X := X) (D := D) hlen.symm)
      have HU := fun u (hb : Below w5.heap.size w5 u) => Lib.hid (unfit_any (c1 := c5) (c2 := c6) hX2 (by omega) (by omega) (Lib.hid (row1.below hb)) (Lib.hid (row2.below hb)))
      have HCl1 := fun u (hb : Below w5.heap.size w5 u) => Lib.hid (Clone_row (cap := c5) (show 1 ≤ X by omega) (by omega) (Lib.hid (row1.below hb)))
      have HCl2 := fun u (hb : Below w5.heap.size w5 u) => Lib.hid (Clone_row (cap := c6) hD1 (by omega) (Lib.hid (row2.below hb)))
      have hq5 := Lib.hid s5.b.lt
      have R5 := Lib.hid r5
      have HX1 := Lib.hid (hx1.symm.trans hx10)
      subst hx10
      clear hx1 hlen hc5 hrow row1 row2 hc6 s5 r5
      have bw1 : Below w5.heap.size w5 w5.drew := below_drew (Below.refl _ _)
      have HU1 := HU w5.drew bw1
      rw [FP.out] at HU1
      obtain ⟨f, hf⟩ : ∃ f, f = fitsM (R.2.1.take X) (R.2.1.drop X) := ⟨_, rfl⟩
      rw [← hf] at HU1
      go_wp2_with fail
      by_cases hf0 : f = 0
      · subst hf0
        have HF := Lib.hid hf
        clear hf
        go_region_with (go_at_call 140; refine HU1.out.mono ?_; rintro e w6 ⟨rfl, b6⟩; have B6 := Lib.hid b6; clear b6)
        all_goals
          have B56 : Hid (Below w5.heap.size w5 w6) := Lib.hid (grows (below_drew (Below.refl _ _)) B6.out)
          have k2' : w6.cell? ⟨w3.heap.size, 2, none⟩ = some (.slice (some ⟨b, 0, none⟩) (X + D) c5) := (B56.out.cell (p := ⟨w3.heap.size, 2, none⟩) hq5.out).trans k2
          have B5d : Hid (Below w5.heap.size w5 w6.drew) := Lib.hid (below_drew B56.out)
          have HA := HCl1 w6.drew B5d.out
          go_wp2_with fail
          go_region_with (first | (go_at_call 180; refine HA.out.mono ?_; rintro e w7 ⟨v7, rfl, h7, b7⟩; obtain ⟨A7, c7, hv7⟩ := h7.form; rw [upto_length] at hv7; subst hv7; have H7 := Lib.hid h7; have B7 : Hid (Below w5.heap.size w5 w7) := Lib.hid (grows B5d.out b7); have k7 : w7.cell? ⟨w3.heap.size, 2, none⟩ = some (.slice (some ⟨b, 0, none⟩) (X + D) c5) := (B7.out.cell (p := ⟨w3.heap.size, 2, none⟩) hq5.out).trans k2; have HA2 := HCl2 w7 B7.out; clear h7 b7) | (go_at_call 180; refine HA2.out.mono ?_; rintro e w8 ⟨v8, rfl, h8, b8⟩; obtain ⟨A8, c8, hv8⟩ := h8.form; rw [upto_length] at hv8; subst hv8; have H8 := Lib.hid h8; have B8 := Lib.hid b8; clear h8 b8))
          all_goals
            go_wp2
            go_ret3
            have hsz : w.heap.size ≤ w5.heap.size := O5.out.size
            have hs6 : w5.heap.size ≤ w6.drew.heap.size := B5d.out.size
            have hs7 : w5.heap.size ≤ w7.heap.size := B7.out.size
            have HS : dynM (num s.data.toList) (8 * s.size) a = (0, (R.2.1.take X, R.2.1.drop X), R.2.2) := by rw [HDY.out, if_neg (by rw [HX1.out]; exact fun h => h rfl), if_neg (by rw [← HF.out]; exact fun h => h rfl)]
            have h7 := H7.out
            have h8 := H8.out
            rw [UP.out.1] at h7
            rw [UP.out.2] at h8
            refine ⟨A7, X, c7, A8, D, c8, by rw [HS]; rfl, fun _ => ?_, ?_⟩
            · rw [HS]
              exact ⟨(ints_lower h7 (Nat.le_trans hsz hs6)).below B8.out, ints_lower h8 (Nat.le_trans hsz hs7), (R5.out.below B7.out).below B8.out⟩
            · exact (O5.out.trans (Only.of_below B7.out)).trans (Only.of_below B8.out)
      · have hne : (f != 0) = true := by simpa using hf0
        have HS : Hid (dynM (num s.data.toList) (8 * s.size) a = (f, ([], []), 0)) := Lib.hid (by rw [HDY.out, if_neg (by rw [HX1.out]; exact fun h => h rfl), if_pos (by rw [← hf]; exact hf0), hf])
        have HNE := Lib.hid hf0
        clear hf hf0
        go_region_with (go_at_call 140; refine HU1.out.mono ?_; rintro e w6 ⟨rfl, b6⟩; have B6 := Lib.hid b6; clear b6)
        all_goals
          go_wp2
          go_ret3
          exact ⟨none, 0, 0, none, 0, 0, by rw [HS.out]; rfl, fun e => absurd (by rw [HS.out] at e; exact e) HNE.out, O5.out.trans (Only.of_below (grows (below_drew (Below.refl _ _)) B6.out))⟩
    · have hne : (x1 != 0) = true := by simpa using hx10
      have HS : Hid (dynM (num s.data.toList) (8 * s.size) a = (x1, ([], []), 0)) := Lib.hid (by rw [HDY.out, if_pos (by rw [← hx1]; exact hx10), hx1])
      have HNE := Lib.hid hx10
      clear hx1 hx10
      go_wp2
      go_ret3
      exact ⟨none, 0, 0, none, 0, 0, by rw [HS.out]; rfl, fun e => absurd (by rw [HS.out] at e; exact e) HNE.out, O5.out⟩

theorem readLengths_any (h : rd w g s a) (hO : ordM w) (hs : s.size ≤ 281474976710656) (ha : a ≤ 8 * s.size) : Calls Tryz.prog 148 #[.pointer (some ⟨g, 0, none⟩)] w (rdL g s a w) := by
  by_cases hl : 8 * s.size - a < 14
  · exact len_short h hs ha hl
  · by_cases hb : 29 < peekN (num s.data.toList) a 5 ∨ 29 < peekN (num s.data.toList) (a + 5) 5
    · exact len_big h hs hl ha hb
    · exact len_more h hO hs hl ha hb
end
end Go.Proofs.YtnkninjdpgpkmaaGreatDoor.Kz
namespace Go.Proofs.YtnkninjdpgpkmaaGreatDoor.Kg
open Go.RowKit Go.Proofs.YtnkninjdpgpkmaaGreatDoor.Bw Go.Proofs.YtnkninjdpgpkmaaGreatDoor.Bm Go.Proofs.YtnkninjdpgpkmaaGreatDoor.Br Go.Proofs.YtnkninjdpgpkmaaGreatDoor.Bs Go.Proofs.YtnkninjdpgpkmaaGreatDoor.Na Go.Proofs.YtnkninjdpgpkmaaGreatDoor.Km Go.Proofs.YtnkninjdpgpkmaaGreatDoor.Ke Go.Proofs.YtnkninjdpgpkmaaGreatDoor.Kf Go.Proofs.YtnkninjdpgpkmaaGreatDoor.Kk Go.Proofs.YtnkninjdpgpkmaaGreatDoor.Ky Go.Proofs.YtnkninjdpgpkmaaGreatDoor.Kx Go.Proofs.YtnkninjdpgpkmaaGreatDoor.Kz

/-- With the order of the code of lengths in memory. -/
theorem readHead_any {s : ByteArray} {a : Nat} (hs : s.size ≤ 281474976710656) (ha : a ≤ 8 * s.size) (u : World) (c : Nat) (h : rd u c s a) (hO : ordM u) :
    Calls Tryz.prog 125 #[.pointer (some ⟨c, 0, none⟩)] u (rdH c s a u) := by
  by_cases hk : 8 * s.size - a < 3 ∨ peekN (num s.data.toList) (a + 1) 2 ≠ 2
  · exact readHead_plain hs ha hk u c h
  · have hl : ¬ 8 * s.size - a < 3 := fun e => hk (.inl e)
    have hk2 : peekN (num s.data.toList) (a + 1) 2 = 2 := Classical.byContradiction fun e => hk (.inr e)
    exact head_dyn' h hs ha hl hk2 (Lib.hid (fun u' h' o' => readLengths_any h' (hO.reader h o') hs (by omega)))
/-- What Read answers. -/
theorem Read_all {w : World} {g : Nat} {s : ByteArray} {a : Nat} (h : rd w g s a) (hO : ordM w) (hs : s.size ≤ 281474976710656) (ha : a ≤ 8 * s.size) :
    Calls Tryz.prog 95 #[.pointer (some ⟨g, 0, none⟩)] w (reads g s a w) :=
  Read_any h hs (Lib.hid (fun u c h' b' => readHead_any hs ha u c h' (hO.below b')))
end Go.Proofs.YtnkninjdpgpkmaaGreatDoor.Kg
