/-
  block.readCode: the table of the code of lengths, or what is wrong.
  block.readLengths: the lengths of a dynamic head, or what is wrong.
  block.readHead and block.Read, of any head.
  What a head that was read leads to; what a machine is behind a field's store, and behind a start that was laid.
  begin: the head of the next block.
  Conditions: as each theorem says.
-/
import Derived.Test.YtkcnjhkbcjnbkaaGreatDoorQbe
import Derived.Test.YtkcnjhkbcjnbkaaGreatDoorQal
import Derived.Test.YtkcnjhkbcjnbkaaGreatDoorQba
import Derived.Test.YtkcnjhkbcjnbkaaGreatDoorQbg
import Derived.Test.YtkcnjhkbcjnbkaaGreatDoorQbf
import Derived.Test.YtkcnjhkbcjnbkaaGreatDoorQak
namespace Go.Proofs.YtkcnjhkbcjnbkaaGreatDoor.Kx
open Go.RowKit Go.Proofs.YtkcnjhkbcjnbkaaGreatDoor.Vm Go.Proofs.YtkcnjhkbcjnbkaaGreatDoor.Vo Go.Proofs.YtkcnjhkbcjnbkaaGreatDoor.Bw Go.Proofs.YtkcnjhkbcjnbkaaGreatDoor.Bm Go.Proofs.YtkcnjhkbcjnbkaaGreatDoor.Br Go.Proofs.YtkcnjhkbcjnbkaaGreatDoor.Bs Go.Proofs.YtkcnjhkbcjnbkaaGreatDoor.Na Go.Proofs.YtkcnjhkbcjnbkaaGreatDoor.Nf Go.Proofs.YtkcnjhkbcjnbkaaGreatDoor.Nh Go.Proofs.YtkcnjhkbcjnbkaaGreatDoor.Ne Go.Proofs.YtkcnjhkbcjnbkaaGreatDoor.Nm Go.Proofs.YtkcnjhkbcjnbkaaGreatDoor.Pm Go.Proofs.YtkcnjhkbcjnbkaaGreatDoor.Pg Go.Proofs.YtkcnjhkbcjnbkaaGreatDoor.Ph Go.Proofs.YtkcnjhkbcjnbkaaGreatDoor.Ko Go.Proofs.YtkcnjhkbcjnbkaaGreatDoor.Ka Go.Proofs.YtkcnjhkbcjnbkaaGreatDoor.Kb Go.Proofs.YtkcnjhkbcjnbkaaGreatDoor.Km Go.Proofs.YtkcnjhkbcjnbkaaGreatDoor.Ks Go.Proofs.YtkcnjhkbcjnbkaaGreatDoor.Kc Go.Proofs.YtkcnjhkbcjnbkaaGreatDoor.Kd Go.Proofs.YtkcnjhkbcjnbkaaGreatDoor.Ke Go.Proofs.YtkcnjhkbcjnbkaaGreatDoor.Ky

theorem _root_.Go.Proofs.YtkcnjhkbcjnbkaaGreatDoor.Ky.ordM.only {S : Nat → Prop} {w w' : World} (h : ordM w) (k : Only S w w') (hne : ¬ S 0) : ordM w' := by
  refine ⟨Nat.lt_of_lt_of_le h.1 k.size, fun i hi => ?_⟩
  have hb := k.block 0 h.1 hne
  have := h.2 i hi
  unfold World.cell? at this ⊢
  simp only [hb]
  exact this
theorem _root_.Go.Proofs.YtkcnjhkbcjnbkaaGreatDoor.Ky.ordM.reader {w w' : World} {g : Nat} {s : ByteArray} {a : Nat} (h : ordM w) (hr : rd w g s a) (k : Only (At g) w w') : ordM w' := by
  refine h.only k (fun e => ?_)
  obtain rfl : g = 0 := Eq.symm e
  have h0 := h.2 0 (by omega)
  have h1 : w.cell? ⟨0, 0, none⟩ = some (.pointer (some ⟨0, 0, none⟩)) := hr.c0
  rw [h0] at h1
  cases h1

set_option maxHeartbeats 1000000 in
set_option maxRecDepth 100000 in
theorem readCode_any {w : World} {g : Nat} {s : ByteArray} {b k : Nat} {z : Int} (hz : z = (k : Int)) (h : rd w g s b) (hO : ordM w) (hs : s.size ≤ 281474976710656) (hb : b ≤ 8 * s.size) (hk4 : 4 ≤ k) (hk : k ≤ 19) :
    Calls Tryz.prog 105 #[.pointer (some ⟨g, 0, none⟩), .int .i64 z] w fun e w' => Only (At g) w w' ∧
      ((8 * s.size - b < 3 * k ∧ e = .returned (.tuple #[.pointer none, .int .i64 2])) ∨
       (¬ 8 * s.size - b < 3 * k ∧ fit 19 (clI (num s.data.toList) b k) false ≠ 0 ∧ e = .returned (.tuple #[.pointer none, .int .i64 (fit 19 (clI (num s.data.toList) b k) false)])) ∨
       (¬ 8 * s.size - b < 3 * k ∧ fit 19 (clI (num s.data.toList) b k) false = 0 ∧ ∃ t, e = .returned (.tuple #[.pointer (some ⟨t, 0, none⟩), .int .i64 0]) ∧ tabl w' t 19 (L 19 (clI (num s.data.toList) b k)) ∧ rd w' g s (b + 3 * k))) := by
  subst hz
  have H := Lib.hid h
  have HO := Lib.hid hO
  have HS := Lib.hid hs
  have HB := Lib.hid hb
  have hg := Lib.hid h.lt
  obtain ⟨M, hM⟩ : ∃ M, M = 8 * s.size := ⟨_, rfl⟩
  have HM := Lib.hid hM
  have hbM : b ≤ M := by omega
  rw [← hM]
  clear h hO hs hb hM
  go_enter Tryz.func105, Tryz.ntmps105
  go_wp2_with fail
  refine (equal_any 0 (n := 19) 19 rfl (by omega) (by omega) w).mono ?_
  rintro e w1 ⟨h, rfl, k1, p1, b1⟩
  have HP := Lib.hid p1
  have K1 : Hid (Blk w1 h 3 (arr 19 (clI (num s.data.toList) b 0))) := Lib.hid (by
    rw [arr_congr (g := clI (num s.data.toList) b 0) (fun i _ => by simp [clI, clM])] at k1
    exact k1)
  have B1 := Lib.hid b1
  clear k1 b1 p1
  go_wp2_with fail
  go_loopw [13] (fun s13 wr => ∃ i : Nat, s13 = .int .i64 (i : Int) ∧ i ≤ k ∧ b + 3 * i ≤ M ∧ Hid (Blk wr h 3 (arr 19 (clI (num s.data.toList) b i))) ∧ Hid (rd wr g s (b + 3 * i)) ∧ Hid (ordM wr) ∧ Hid (Only (At g) w wr)) (fun s13 _ => k - (intOf s13).toNat)
  case atStart => exact ⟨0, rfl, by omega, by omega, K1, Lib.hid (H.out.below B1.out), Lib.hid (HO.out.below B1.out), Lib.hid (Only.of_below B1.out)⟩
  case round =>
    obtain ⟨i, rfl, hi, hiM, KB, RD, OM, OO⟩ := hrel
    clear K1
    by_cases hik : i < k
    · have hik' : (i : Int) < (k : Int) := by omega
      by_cases hsh : M - (b + 3 * i) < 3
      · have HSH : Hid (M - b < 3 * k) := Lib.hid (by omega)
        go_wp2_with fail
        refine (Bits_short (m := 3) rfl (by omega) RD.out HS.out (by rw [← HM.out]; exact hiM) (by rw [← HM.out]; exact hsh)).mono ?_
        rintro e w2 ⟨rfl, r2, o2⟩
        have O2 := Lib.hid o2
        clear r2 o2
        go_wp2
        go_ret2
        exact ⟨OO.out.trans O2.out, .inl ⟨HSH.out, rfl⟩⟩
      · obtain ⟨y, hy⟩ : ∃ y, y = peekN (num s.data.toList) (b + 3 * i) 3 := ⟨_, rfl⟩
        have HY := Lib.hid hy
        obtain ⟨o, ho⟩ : ∃ o, o = ord i := ⟨_, rfl⟩
        have ho19 : o < 19 := by rw [ho]; exact ord_lt i (by omega)
        have HOD := Lib.hid ho
        go_wp2_with fail
        refine (Bits_has (m := 3) rfl (by omega) RD.out HS.out (by rw [← HM.out]; omega)).mono ?_
        rintro e w2 ⟨rfl, r2, o2⟩
        rw [← HY.out]
        have R2 := Lib.hid r2
        have O2 := Lib.hid o2
        have OM2 := Lib.hid (OM.out.reader RD.out o2)
        have hhg : Hid (h ≠ g) := Lib.hid (by have := HP.out; have := hg.out; omega)
        have KB2 : Hid (Blk w2 h 3 (arr 19 (clI (num s.data.toList) b i))) := Lib.hid (KB.out.only o2 (fun e => hhg.out e))
        have c1 : w2.cell? ⟨0, i, none⟩ = some (.int .i64 (o : Int)) := by rw [OM2.out.2 i (by omega), ← HOD.out]
        have c2 : w2.cell? ⟨h, o, none⟩ = some (.int .i64 (clI (num s.data.toList) b i o)) := by rw [KB2.out.cell, arr_get _ ho19]
        have f2 := KB2.out.frozen o
        clear r2 o2 ho hy
        go_wp2
        go_roundw
        case rel =>
          have hgh := HP.out
          refine ⟨i + 1, by go_num, by omega, by omega, Lib.hid ?_, Lib.hid ?_, Lib.hid ?_, Lib.hid ?_⟩
          · have h3 := KB2.out.store o (.int .i64 (y : Int))
            rw [arr_set, arr_congr (g := clI (num s.data.toList) b (i + 1)) (fun j _ => by
              unfold clI
              rw [clM, ← HOD.out, ← HY.out]
              by_cases e : j = o
              · rw [if_pos e, if_pos e]
              · rw [if_neg e, if_neg e])] at h3
            exact h3
          · exact R2.out.only ((Only.refl (At h) w2).store (p := ⟨h, o, none⟩) (.inl rfl) _) (fun e => hhg.out e.symm)
          · exact OM2.out.only ((Only.refl (At h) w2).store (p := ⟨h, o, none⟩) (.inl rfl) _) (fun e => by have : 0 = h := e; have := HO.out.1; omega)
          · exact (OO.out.trans O2.out).store (p := ⟨h, o, none⟩) (.inr hgh) _
        case measure => simp [intOf]; omega
    · obtain rfl : i = k := by omega
      have hlong : ¬ M - b < 3 * i := by omega
      have HLO := Lib.hid hlong
      have HF := Lib.hid (Fits_any (cap := 19) (n := 19) false (by omega) (Lib.hid (row_of_blk KB.out)))
      obtain ⟨y, hy⟩ : ∃ y, y = fit 19 (clI (num s.data.toList) b i) false := ⟨_, rfl⟩
      rw [← hy] at HF
      have HYE := Lib.hid hy
      by_cases hy0 : y = 0
      · have HE := Lib.hid (fit_zero (hy.symm.trans hy0))
        subst hy0
        clear hy hlong
        go_wp2_with fail
        refine HF.out.mono ?_
        rintro e w2 ⟨rfl, b2⟩
        have B2 := Lib.hid b2
        clear b2
        go_wp2_with fail
        refine (New_ok (cap := 19) HE.out (Lib.hid (row_of_blk (KB.out.below B2.out)))).mono ?_
        rintro e w3 ⟨t, rfl, t3, p3, b3⟩
        have T3 := Lib.hid t3
        have B3 := Lib.hid b3
        clear t3 p3 b3
        go_wp2
        go_ret2
        exact ⟨(OO.out.trans (Only.of_below B2.out)).trans (Only.of_below B3.out), .inr (.inr ⟨HLO.out, HYE.out.symm, t, rfl, T3.out, (RD.out.below B2.out).below B3.out⟩)⟩
      · have hy1 : (y != 0) = true := by simpa using hy0
        have HY0 := Lib.hid hy0
        clear hy hlong hy0
        go_wp2_with fail
        refine HF.out.mono ?_
        rintro e w2 ⟨rfl, b2⟩
        have B2 := Lib.hid b2
        clear b2
        go_wp2
        go_ret2
        exact ⟨OO.out.trans (Only.of_below B2.out), .inr (.inl ⟨HLO.out, by rw [← HYE.out]; exact HY0.out, by rw [← HYE.out]; rfl⟩)⟩
end Go.Proofs.YtkcnjhkbcjnbkaaGreatDoor.Kx
namespace Go.Proofs.YtkcnjhkbcjnbkaaGreatDoor.Kz
open Go.Proofs.YtkcnjhkbcjnbkaaGreatDoor Go.RowKit Go.Proofs.YtkcnjhkbcjnbkaaGreatDoor.Vm Go.Proofs.YtkcnjhkbcjnbkaaGreatDoor.Vo Go.Proofs.YtkcnjhkbcjnbkaaGreatDoor.Bw Go.Proofs.YtkcnjhkbcjnbkaaGreatDoor.Bm Go.Proofs.YtkcnjhkbcjnbkaaGreatDoor.Br Go.Proofs.YtkcnjhkbcjnbkaaGreatDoor.Bs Go.Proofs.YtkcnjhkbcjnbkaaGreatDoor.Na Go.Proofs.YtkcnjhkbcjnbkaaGreatDoor.Nf Go.Proofs.YtkcnjhkbcjnbkaaGreatDoor.Nh Go.Proofs.YtkcnjhkbcjnbkaaGreatDoor.Ne Go.Proofs.YtkcnjhkbcjnbkaaGreatDoor.Nm Go.Proofs.YtkcnjhkbcjnbkaaGreatDoor.Pm Go.Proofs.YtkcnjhkbcjnbkaaGreatDoor.Pg Go.Proofs.YtkcnjhkbcjnbkaaGreatDoor.Ph Go.Proofs.YtkcnjhkbcjnbkaaGreatDoor.Ko Go.Proofs.YtkcnjhkbcjnbkaaGreatDoor.Ka Go.Proofs.YtkcnjhkbcjnbkaaGreatDoor.Kb Go.Proofs.YtkcnjhkbcjnbkaaGreatDoor.Km Go.Proofs.YtkcnjhkbcjnbkaaGreatDoor.Ks Go.Proofs.YtkcnjhkbcjnbkaaGreatDoor.Kc Go.Proofs.YtkcnjhkbcjnbkaaGreatDoor.Kd Go.Proofs.YtkcnjhkbcjnbkaaGreatDoor.Ke Go.Proofs.YtkcnjhkbcjnbkaaGreatDoor.Ky Go.Proofs.YtkcnjhkbcjnbkaaGreatDoor.Kx Go.Proofs.YtkcnjhkbcjnbkaaGreatDoor.Kq Go.Proofs.YtkcnjhkbcjnbkaaGreatDoor.Ku

theorem peek14 (N a : Nat) : peekN N a 14 % 32 = peekN N a 5 ∧ peekN N a 14 / 32 % 32 = peekN N (a + 5) 5 ∧ peekN N a 14 / 1024 = peekN N (a + 10) 4 := by
  have h1 := peekN_add N a 5 9
  have h2 := peekN_add N (a + 5) 5 4
  have l1 := peekN_lt N a 5
  have l2 := peekN_lt N (a + 5) 5
  rw [show 5 + 9 = 14 from rfl] at h1
  rw [show 5 + 4 = 9 from rfl, show a + 5 + 5 = a + 10 from rfl] at h2
  omega
theorem fitsI_parts {l : List Nat} {X D : Nat} (hX : X + D = l.length) (h256 : 256 < X) : fitsI X (ix l) D (fun i => ix l (X + i)) = fitsM (l.take X) (l.drop X) := by
  have e1 : ∀ i, i < X → ix l i = ix (l.take X) i := fun i hi => by
    unfold ix nth
    rw [List.getD_eq_getElem?_getD, List.getD_eq_getElem?_getD, List.getElem?_take, if_pos hi]
  have e2 : ∀ i, i < D → ix l (X + i) = ix (l.drop X) i := fun i _ => by
    unfold ix nth
    rw [List.getD_eq_getElem?_getD, List.getD_eq_getElem?_getD, List.getElem?_drop]
  have l1 : (l.take X).length = X := by rw [List.length_take]; omega
  have l2 : (l.drop X).length = D := by rw [List.length_drop]; omega
  unfold fitsM fitsI
  rw [l1, l2, e1 256 h256, fit_congr true e1, fit_congr true e2]
theorem upto_parts {l : List Nat} {X D : Nat} (hX : X + D = l.length) : upto X (ix l) = ofN (l.take X) ∧ upto D (fun i => ix l (X + i)) = ofN (l.drop X) := by
  constructor
  · apply List.ext_getElem?
    intro i
    by_cases h : i < X
    · rw [upto_get _ h]
      unfold ofN ix nth
      rw [List.getElem?_map, List.getElem?_take, if_pos h, List.getD_eq_getElem?_getD, List.getElem?_eq_getElem (by omega)]
      rfl
    · rw [List.getElem?_eq_none (by rw [upto_length]; omega), List.getElem?_eq_none (by rw [ofN_length, List.length_take]; omega)]
  · apply List.ext_getElem?
    intro i
    by_cases h : i < D
    · rw [upto_get _ h]
      unfold ofN ix nth
      rw [List.getElem?_map, List.getElem?_drop, List.getD_eq_getElem?_getD, List.getElem?_eq_getElem (by omega)]
      rfl
    · rw [List.getElem?_eq_none (by rw [upto_length]; omega), List.getElem?_eq_none (by rw [ofN_length, List.length_drop]; omega)]
theorem cutL {g n cap X : Nat} {z : Int} (hz : z = (X : Int)) (hx : X < cap) (hxn : X ≤ n) (u : World) : (Instr.slice 35 (.slice (some ⟨g, 0, none⟩) n cap) (some (.int .i64 z)) none none).run Tryz.prog u = .ok (.slice (some ⟨g, X, none⟩) (n - X) (cap - X)) u := by
  subst hz; exact cut_low hx hxn rfl u
theorem cutH {A : Option Addr} {n cap X : Nat} {z : Int} (hz : z = (X : Int)) (hx : X ≤ cap) (u : World) : (Instr.slice 35 (.slice A n cap) none (some (.int .i64 z)) none).run Tryz.prog u = .ok (.slice A X cap) u := by
  subst hz; exact cut_high hx u
section
variable {w : World} {g : Nat} {s : ByteArray} {a : Nat}
set_option maxRecDepth 100000 in
theorem len_short (h : rd w g s a) (hs : s.size ≤ 281474976710656) (ha : a ≤ 8 * s.size) (hl : 8 * s.size - a < 14) : Calls Tryz.prog 84 #[.pointer (some ⟨g, 0, none⟩)] w (rdL g s a w) := by
  have HS := Lib.hid (show dynM (num s.data.toList) (8 * s.size) a = (2, ([], []), 0) by unfold dynM; rw [if_pos hl])
  go_enter Tryz.func84, Tryz.ntmps84
  go_wp2_with fail
  refine (Bits_short (m := 14) rfl (by omega) h hs ha hl).mono ?_
  rintro e w2 ⟨rfl, r2, o2⟩
  go_wp2
  go_ret3
  exact ⟨none, 0, 0, none, 0, 0, by rw [HS.out]; rfl, fun e => (by rw [HS.out] at e; cases e), o2⟩
set_option maxRecDepth 100000 in
theorem len_big (h : rd w g s a) (hs : s.size ≤ 281474976710656) (hl : ¬ 8 * s.size - a < 14) (ha : a ≤ 8 * s.size) (hbg : 29 < peekN (num s.data.toList) a 5 ∨ 29 < peekN (num s.data.toList) (a + 5) 5) : Calls Tryz.prog 84 #[.pointer (some ⟨g, 0, none⟩)] w (rdL g s a w) := by
  have HS := Lib.hid (show dynM (num s.data.toList) (8 * s.size) a = (3, ([], []), 0) by unfold dynM; rw [if_neg hl, if_pos hbg])
  obtain ⟨q1, q2, q3⟩ := peek14 (num s.data.toList) a
  obtain ⟨v, hv⟩ : ∃ v, v = peekN (num s.data.toList) a 14 := ⟨_, rfl⟩
  obtain ⟨x, hx⟩ : ∃ x, x = peekN (num s.data.toList) a 5 := ⟨_, rfl⟩
  obtain ⟨y, hy⟩ : ∃ y, y = peekN (num s.data.toList) (a + 5) 5 := ⟨_, rfl⟩
  have hx32 : x < 32 := by rw [hx]; exact peekN_lt _ _ _
  have hy32 : y < 32 := by rw [hy]; exact peekN_lt _ _ _
  have hv14 : v < 16384 := by rw [hv]; exact peekN_lt _ _ _
  rw [← hv, ← hx] at q1
  rw [← hv, ← hy] at q2
  rw [← hx, ← hy] at hbg
  have e1 : (v : Int) % 32 = (x : Int) := by omega
  have e2 : (v : Int) / 32 % 32 = (y : Int) := by omega
  have HV := Lib.hid hv
  have H := Lib.hid h
  clear q1 q2 q3 hv hx hy h
  by_cases hx29 : 29 < x
  · have t1 : (286 : Int) < 257 + (x : Int) := by omega
    go_enter Tryz.func84, Tryz.ntmps84
    go_wp2_with fail
    refine (Bits_has (m := 14) rfl (by omega) H.out hs (by omega)).mono ?_
    rintro e w2 ⟨rfl, r2, o2⟩
    rw [← HV.out]
    go_wp2
    go_ret3
    exact ⟨none, 0, 0, none, 0, 0, by rw [HS.out]; rfl, fun e => (by rw [HS.out] at e; cases e), o2⟩
  · have t1 : ¬ (286 : Int) < 257 + (x : Int) := by omega
    have t2 : (30 : Int) < 1 + (y : Int) := by omega
    go_enter Tryz.func84, Tryz.ntmps84
    go_wp2_with fail
    refine (Bits_has (m := 14) rfl (by omega) H.out hs (by omega)).mono ?_
    rintro e w2 ⟨rfl, r2, o2⟩
    rw [← HV.out]
    go_wp2
    go_ret3
    exact ⟨none, 0, 0, none, 0, 0, by rw [HS.out]; rfl, fun e => (by rw [HS.out] at e; cases e), o2⟩

set_option maxHeartbeats 2000000 in
set_option maxRecDepth 100000 in
theorem len_more (h : rd w g s a) (hO : ordM w) (hs : s.size ≤ 281474976710656) (hl : ¬ 8 * s.size - a < 14) (ha : a ≤ 8 * s.size) (hbg : ¬ (29 < peekN (num s.data.toList) a 5 ∨ 29 < peekN (num s.data.toList) (a + 5) 5)) : Calls Tryz.prog 84 #[.pointer (some ⟨g, 0, none⟩)] w (rdL g s a w) := by
  obtain ⟨q1, q2, q3⟩ := peek14 (num s.data.toList) a
  obtain ⟨v, hv⟩ : ∃ v, v = peekN (num s.data.toList) a 14 := ⟨_, rfl⟩
  obtain ⟨x, hx⟩ : ∃ x, x = peekN (num s.data.toList) a 5 := ⟨_, rfl⟩
  obtain ⟨y, hy⟩ : ∃ y, y = peekN (num s.data.toList) (a + 5) 5 := ⟨_, rfl⟩
  obtain ⟨u, hu⟩ : ∃ u, u = peekN (num s.data.toList) (a + 10) 4 := ⟨_, rfl⟩
  have hu16 : u < 16 := by rw [hu]; exact peekN_lt _ _ _
  have hv14 : v < 16384 := by rw [hv]; exact peekN_lt _ _ _
  have HD0 := Lib.hid (show dynM (num s.data.toList) (8 * s.size) a = (if 8 * s.size - (a + 14) < 3 * (u + 4) then (2, ([], []), 0)
      else if fit 19 (clI (num s.data.toList) (a + 14) (u + 4)) false ≠ 0 then (fit 19 (clI (num s.data.toList) (a + 14) (u + 4)) false, ([], []), 0)
      else
        let r := seqM (L 19 (clI (num s.data.toList) (a + 14) (u + 4))) (num s.data.toList) (8 * s.size) (x + 257 + (y + 1)) (a + 14 + 3 * (u + 4)) []
        if r.1 ≠ 0 then (r.1, ([], []), 0)
        else if fitsM (r.2.1.take (x + 257)) (r.2.1.drop (x + 257)) ≠ 0 then (fitsM (r.2.1.take (x + 257)) (r.2.1.drop (x + 257)), ([], []), 0)
        else (0, (r.2.1.take (x + 257), r.2.1.drop (x + 257)), r.2.2)) by unfold dynM; rw [if_neg hl, if_neg hbg, ← hx, ← hy, ← hu])
  rw [← hv, ← hx] at q1
  rw [← hv, ← hy] at q2
  rw [← hv, ← hu] at q3
  rw [← hx, ← hy] at hbg
  have e1 : (v : Int) % 32 = (x : Int) := by omega
  have e2 : (v : Int) / 32 % 32 = (y : Int) := by omega
  have e3 : (v : Int) / 1024 = (u : Int) := by omega
  have t1 : ¬ (286 : Int) < 257 + (x : Int) := by omega
  have t2 : ¬ (30 : Int) < 1 + (y : Int) := by omega
  have hx29 : x ≤ 29 := by omega
  have hy29 : y ≤ 29 := by omega
  have HV := Lib.hid hv
  have H := Lib.hid h
  have HO := Lib.hid hO
  clear q1 q2 q3 hv hx hy hu h hO hbg
  go_enter Tryz.func84, Tryz.ntmps84
  go_wp2_with fail
  refine (Bits_has (m := 14) rfl (by omega) H.out hs (by omega)).mono ?_
  rintro e w2 ⟨rfl, r2, o2⟩
  rw [← HV.out]
  have R2 := Lib.hid r2
  have O2 := Lib.hid o2
  have OM2 := Lib.hid (HO.out.reader H.out o2)
  clear r2 o2
  go_wp2_with fail
  refine (readCode_any (k := u + 4) (by omega) R2.out OM2.out hs (by omega) (by omega) (by omega)).mono ?_
  rintro e w3 ⟨o3, hc⟩
  have O3 := Lib.hid o3
  have O23 : Hid (Only (At g) w w3) := Lib.hid (O2.out.trans o3)
  clear o3
  rcases hc with ⟨hc, rfl⟩ | ⟨hc, hc2, rfl⟩ | ⟨hc, hc2, t, rfl, t3, r3⟩
  · have HS : Hid (dynM (num s.data.toList) (8 * s.size) a = (2, ([], []), 0)) := Lib.hid (by rw [HD0.out, if_pos hc])
    clear hc
    go_wp2
    go_ret3
    exact ⟨none, 0, 0, none, 0, 0, by rw [HS.out]; rfl, fun e => (by rw [HS.out] at e; cases e), O23.out⟩
  · obtain ⟨f, hf⟩ : ∃ f, f = fit 19 (clI (num s.data.toList) (a + 14) (u + 4)) false := ⟨_, rfl⟩
    have HS : Hid (dynM (num s.data.toList) (8 * s.size) a = (f, ([], []), 0)) := Lib.hid (by rw [HD0.out, if_neg hc, if_pos hc2, hf])
    rw [← hf] at hc2 ⊢
    have hne : (f != 0) = true := by simpa using hc2
    have HNE := Lib.hid hc2
    clear hc hc2 hf
    go_wp2
    go_ret3
    exact ⟨none, 0, 0, none, 0, 0, by rw [HS.out]; rfl, fun e => absurd (by rw [HS.out] at e; exact e) HNE.out, O23.out⟩
  · have he := fit_zero hc2
    obtain ⟨_, _, hks⟩ := err_zero he
    obtain ⟨C, hC⟩ : ∃ C, C = L 19 (clI (num s.data.toList) (a + 14) (u + 4)) := ⟨_, rfl⟩
    have h15 : ∀ j, nth C j ≤ 15 := fun j => by rw [hC]; exact clI_le _ _ _ j
    have hCl : C.length = 19 := by rw [hC, L_length]
    rw [← hC] at t3 hks
    obtain ⟨X, hX⟩ : ∃ X, X = x + 257 := ⟨_, rfl⟩
    obtain ⟨D, hD⟩ : ∃ D, D = y + 1 := ⟨_, rfl⟩
    have hX1 : X ≤ 286 := by omega
    have hX2 : 257 ≤ X := by omega
    have hD1 : 1 ≤ D := by omega
    have hD2 : D ≤ 30 := by omega
    have eX : (257 : Int) + (x : Int) = (X : Int) := by omega
    have EX := Lib.hid eX
    clear eX
    obtain ⟨R, hR⟩ : ∃ R, R = seqM C (num s.data.toList) (8 * s.size) (X + D) (a + 14 + 3 * (u + 4)) [] := ⟨_, rfl⟩
    have HDY : Hid (dynM (num s.data.toList) (8 * s.size) a = (if R.1 ≠ 0 then (R.1, ([], []), 0)
        else if fitsM (R.2.1.take X) (R.2.1.drop X) ≠ 0 then (fitsM (R.2.1.take X) (R.2.1.drop X), ([], []), 0)
        else (0, (R.2.1.take X, R.2.1.drop X), R.2.2))) := Lib.hid (by
      rw [HD0.out, if_neg hc, if_neg (by rw [hc2]; exact fun h => h rfl), ← hC, ← hX, ← hD, hR])
    have hp3 : a + 14 + 3 * (u + 4) ≤ 8 * s.size := by omega
    have HRF : Hid (R.1 = 0 → R.2.1.length = X + D) := Lib.hid (fun h0 => by
      rw [hR] at h0 ⊢
      exact (seq_facts h15 _ _ [] (Nat.le_refl _) (by simp) (fun x hx => by cases hx) hp3 h0).1)
    obtain ⟨w4, hw4⟩ : ∃ w4, w4 = w3.alloc (.cells #[.pointer (some ⟨g, 0, none⟩), .pointer (some ⟨t, 0, none⟩), .slice none 0 0, .int .i64 (257 + (x : Int) + (1 + (y : Int)))] 143) := ⟨_, rfl⟩
    have b4 : Below w3.heap.size w3 w4 := by rw [hw4]; exact below_alloc _ _
    have s4 : sq w3.heap.size w4 w3.heap.size g t (.slice none 0 0) [] (X + D) := ⟨by
      rw [hw4, show (257 + (x : Int) + (1 + (y : Int))) = ((X + D : Nat) : Int) by omega]; exact Blk.fresh _ _ _, ints_nil _ _ _, Nat.le_refl _⟩
    have hgl := r3.lt
    have HQ := Lib.hid (Kv.read_any h15 hks hCl s4 (r3.below b4) (Go.Proofs.YtkcnjhkbcjnbkaaGreatDoor.Ph.tabl.below t3 b4) hs hp3 (by omega) hgl b4.size)
    rw [← hR] at HQ
    have O4 : Hid (Only (At g) w w4) := Lib.hid (O23.out.trans (Only.of_below b4))
    have S34 : Hid (w.heap.size ≤ w3.heap.size) := Lib.hid O23.out.size
    have HGL := Lib.hid hgl
    clear hc hc2 he hks hC h15 hCl t3 r3 hR b4 s4 hgl hX hD
    go_wp2_with fail
    rw [← hw4]
    refine HQ.out.mono ?_
    rintro e w5 ⟨rfl, i5, o5⟩
    have O5 : Hid (Only (At g) w w5) := Lib.hid (Only.then O4.out o5 (fun i hi hlt => by
      rcases hi with e | e
      · exact e
      · have := S34.out; omega))
    have I5 := Lib.hid i5
    clear i5 o5 hw4
    obtain ⟨x1, hx1⟩ : ∃ x1, x1 = R.1 := ⟨_, rfl⟩
    rw [← hx1]
    by_cases hx10 : x1 = 0
    · obtain ⟨v5, s5, r5⟩ := I5.out (hx1.symm.trans hx10)
      have hlen := HRF.out (hx1.symm.trans hx10)
      obtain ⟨A5, c5, hv5⟩ := s5.form
      rw [hlen] at hv5
      subst hv5
      obtain ⟨b, hA5⟩ : ∃ b, A5 = some ⟨b, 0, none⟩ := by
        rcases s5.o.2 with ⟨e0, h0⟩ | ⟨b, cap, _, e1, _⟩
        · rw [ofN_length] at h0; omega
        · injection e1 with e1 _ _
          exact ⟨b, e1⟩
      subst hA5
      have hc5 : X + D ≤ c5 := by
        obtain ⟨_, cc, e, hle⟩ := s5.o.le
        injection e with _ _ e
        rw [ofN_length, hlen] at hle
        omega
      have hrow : row w5 (some ⟨b, 0, none⟩) (X + D) (ix R.2.1) := by
        have h := s5.o.row
        rw [ofN_length, hlen] at h
        exact h.congr (fun i _ => ofN_at _ i)
      have row1 : row w5 (some ⟨b, 0, none⟩) X (ix R.2.1) := fun i hi => hrow i (by omega)
      have row2 : row w5 (some ⟨b, X, none⟩) D (fun i => ix R.2.1 (X + i)) := fun i hi => by
        obtain ⟨b', off, e, hb, hcell⟩ := hrow (X + i) (by omega)
        injection e with e
        injection e with e1 e2 _
        subst e1; subst e2
        exact ⟨b, X, rfl, hb, by rw [Nat.zero_add] at hcell; exact hcell⟩
      have k2 : w5.cell? ⟨w3.heap.size, 2, none⟩ = some (.slice (some ⟨b, 0, none⟩) (X + D) c5) := s5.b.cell 2
      have hcut1 := fun u => cutH (A := some ⟨b, 0, none⟩) (n := X + D) (cap := c5) EX.out (by omega) u
      have hcut2 := fun u => cutL (g := b) (n := X + D) (cap := c5) EX.out (by omega) (by omega) u
      rw [Nat.add_sub_cancel_left] at hcut2
      obtain ⟨c6, hc6⟩ : ∃ c6, c6 = c5 - X := ⟨_, rfl⟩
      rw [← hc6] at hcut2
      have FP := Lib.hid (fitsI_parts (l := R.2.1) (X := X) (D := D) hlen.symm (by omega))
      have UP := Lib.hid (upto_parts (l := R.2.1) (X := X) (D := D) hlen.symm)
      have HU := fun u (hb : Below w5.heap.size w5 u) => Lib.hid (unfit_any (c1 := c5) (c2 := c6) hX2 (by omega) (by omega) (Lib.hid (row1.below hb)) (Lib.hid (row2.below hb)))
      have HCl1 := fun u (hb : Below w5.heap.size w5 u) => Lib.hid (Clone_row (cap := c5) (show 1 ≤ X by omega) (by omega) (Lib.hid (row1.below hb)))
      have HCl2 := fun u (hb : Below w5.heap.size w5 u) => Lib.hid (Clone_row (cap := c6) hD1 (by omega) (Lib.hid (row2.below hb)))
      have hq5 := Lib.hid s5.b.lt
      have R5 := Lib.hid r5
      have HX1 := Lib.hid (hx1.symm.trans hx10)
      subst hx10
      clear hx1 hlen hc5 hrow row1 row2 hc6 s5 r5
      have bw1 : Below w5.heap.size w5 w5.drew := below_drew (Below.refl _ _)
      have HU1 := HU w5.drew bw1
      rw [FP.out] at HU1
      obtain ⟨f, hf⟩ : ∃ f, f = fitsM (R.2.1.take X) (R.2.1.drop X) := ⟨_, rfl⟩
      rw [← hf] at HU1
      go_wp2_with fail
      by_cases hf0 : f = 0
      · subst hf0
        have HF := Lib.hid hf
        clear hf
        go_region_with (go_at_call 107; refine HU1.out.mono ?_; rintro e w6 ⟨rfl, b6⟩; have B6 := Lib.hid b6; clear b6)
        all_goals
          have B56 : Hid (Below w5.heap.size w5 w6) := Lib.hid (grows (below_drew (Below.refl _ _)) B6.out)
          have k2' : w6.cell? ⟨w3.heap.size, 2, none⟩ = some (.slice (some ⟨b, 0, none⟩) (X + D) c5) := (B56.out.cell (p := ⟨w3.heap.size, 2, none⟩) hq5.out).trans k2
          have B5d : Hid (Below w5.heap.size w5 w6.drew) := Lib.hid (below_drew B56.out)
          have HA := HCl1 w6.drew B5d.out
          go_wp2_with fail
          go_region_with (first | (go_at_call 108; refine HA.out.mono ?_; rintro e w7 ⟨v7, rfl, h7, b7⟩; obtain ⟨A7, c7, hv7⟩ := h7.form; rw [upto_length] at hv7; subst hv7; have H7 := Lib.hid h7; have B7 : Hid (Below w5.heap.size w5 w7) := Lib.hid (grows B5d.out b7); have k7 : w7.cell? ⟨w3.heap.size, 2, none⟩ = some (.slice (some ⟨b, 0, none⟩) (X + D) c5) := (B7.out.cell (p := ⟨w3.heap.size, 2, none⟩) hq5.out).trans k2; have HA2 := HCl2 w7 B7.out; clear h7 b7) | (go_at_call 108; refine HA2.out.mono ?_; rintro e w8 ⟨v8, rfl, h8, b8⟩; obtain ⟨A8, c8, hv8⟩ := h8.form; rw [upto_length] at hv8; subst hv8; have H8 := Lib.hid h8; have B8 := Lib.hid b8; clear h8 b8))
          all_goals
            go_wp2
            go_ret3
            have hsz : w.heap.size ≤ w5.heap.size := O5.out.size
            have hs6 : w5.heap.size ≤ w6.drew.heap.size := B5d.out.size
            have hs7 : w5.heap.size ≤ w7.heap.size := B7.out.size
            have HS : dynM (num s.data.toList) (8 * s.size) a = (0, (R.2.1.take X, R.2.1.drop X), R.2.2) := by rw [HDY.out, if_neg (by rw [HX1.out]; exact fun h => h rfl), if_neg (by rw [← HF.out]; exact fun h => h rfl)]
            have h7 := H7.out
            have h8 := H8.out
            rw [UP.out.1] at h7
            rw [UP.out.2] at h8
            refine ⟨A7, X, c7, A8, D, c8, by rw [HS]; rfl, fun _ => ?_, ?_⟩
            · rw [HS]
              exact ⟨(ints_lower h7 (Nat.le_trans hsz hs6)).below B8.out, ints_lower h8 (Nat.le_trans hsz hs7), (R5.out.below B7.out).below B8.out⟩
            · exact (O5.out.trans (Only.of_below B7.out)).trans (Only.of_below B8.out)
      · have hne : (f != 0) = true := by simpa using hf0
        have HS : Hid (dynM (num s.data.toList) (8 * s.size) a = (f, ([], []), 0)) := Lib.hid (by rw [HDY.out, if_neg (by rw [HX1.out]; exact fun h => h rfl), if_pos (by rw [← hf]; exact hf0), hf])
        have HNE := Lib.hid hf0
        clear hf hf0
        go_region_with (go_at_call 107; refine HU1.out.mono ?_; rintro e w6 ⟨rfl, b6⟩; have B6 := Lib.hid b6; clear b6)
        all_goals
          go_wp2
          go_ret3
          exact ⟨none, 0, 0, none, 0, 0, by rw [HS.out]; rfl, fun e => absurd (by rw [HS.out] at e; exact e) HNE.out, O5.out.trans (Only.of_below (grows (below_drew (Below.refl _ _)) B6.out))⟩
    · have hne : (x1 != 0) = true := by simpa using hx10
      have HS : Hid (dynM (num s.data.toList) (8 * s.size) a = (x1, ([], []), 0)) := Lib.hid (by rw [HDY.out, if_pos (by rw [← hx1]; exact hx10), hx1])
      have HNE := Lib.hid hx10
      clear hx1 hx10
      go_wp2
      go_ret3
      exact ⟨none, 0, 0, none, 0, 0, by rw [HS.out]; rfl, fun e => absurd (by rw [HS.out] at e; exact e) HNE.out, O5.out⟩

theorem readLengths_any (h : rd w g s a) (hO : ordM w) (hs : s.size ≤ 281474976710656) (ha : a ≤ 8 * s.size) : Calls Tryz.prog 84 #[.pointer (some ⟨g, 0, none⟩)] w (rdL g s a w) := by
  by_cases hl : 8 * s.size - a < 14
  · exact len_short h hs ha hl
  · by_cases hb : 29 < peekN (num s.data.toList) a 5 ∨ 29 < peekN (num s.data.toList) (a + 5) 5
    · exact len_big h hs hl ha hb
    · exact len_more h hO hs hl ha hb
end
end Go.Proofs.YtkcnjhkbcjnbkaaGreatDoor.Kz
namespace Go.Proofs.YtkcnjhkbcjnbkaaGreatDoor.Kg
open Go.RowKit Go.Proofs.YtkcnjhkbcjnbkaaGreatDoor.Bw Go.Proofs.YtkcnjhkbcjnbkaaGreatDoor.Bm Go.Proofs.YtkcnjhkbcjnbkaaGreatDoor.Br Go.Proofs.YtkcnjhkbcjnbkaaGreatDoor.Bs Go.Proofs.YtkcnjhkbcjnbkaaGreatDoor.Na Go.Proofs.YtkcnjhkbcjnbkaaGreatDoor.Km Go.Proofs.YtkcnjhkbcjnbkaaGreatDoor.Ke Go.Proofs.YtkcnjhkbcjnbkaaGreatDoor.Kf Go.Proofs.YtkcnjhkbcjnbkaaGreatDoor.Kk Go.Proofs.YtkcnjhkbcjnbkaaGreatDoor.Ky Go.Proofs.YtkcnjhkbcjnbkaaGreatDoor.Kx Go.Proofs.YtkcnjhkbcjnbkaaGreatDoor.Kz

/-- With the order of the code of lengths in memory. -/
theorem readHead_any {s : ByteArray} {a : Nat} (hs : s.size ≤ 281474976710656) (ha : a ≤ 8 * s.size) (u : World) (c : Nat) (h : rd u c s a) (hO : ordM u) :
    Calls Tryz.prog 62 #[.pointer (some ⟨c, 0, none⟩)] u (rdH c s a u) := by
  by_cases hk : 8 * s.size - a < 3 ∨ peekN (num s.data.toList) (a + 1) 2 ≠ 2
  · exact readHead_plain hs ha hk u c h
  · have hl : ¬ 8 * s.size - a < 3 := fun e => hk (.inl e)
    have hk2 : peekN (num s.data.toList) (a + 1) 2 = 2 := Classical.byContradiction fun e => hk (.inr e)
    exact head_dyn' h hs ha hl hk2 (Lib.hid (fun u' h' o' => readLengths_any h' (hO.reader h o') hs (by omega)))
/-- What Read answers. -/
theorem Read_all {w : World} {g : Nat} {s : ByteArray} {a : Nat} (h : rd w g s a) (hO : ordM w) (hs : s.size ≤ 281474976710656) (ha : a ≤ 8 * s.size) :
    Calls Tryz.prog 44 #[.pointer (some ⟨g, 0, none⟩)] w (reads g s a w) :=
  Read_any h hs (Lib.hid (fun u c h' b' => readHead_any hs ha u c h' (hO.below b')))
end Go.Proofs.YtkcnjhkbcjnbkaaGreatDoor.Kg
namespace Go.Proofs.YtkcnjhkbcjnbkaaGreatDoor.Ih
open Go.RowKit Go.Proofs.YtkcnjhkbcjnbkaaGreatDoor.Vm Go.Proofs.YtkcnjhkbcjnbkaaGreatDoor.Bm Go.Proofs.YtkcnjhkbcjnbkaaGreatDoor.Bw Go.Proofs.YtkcnjhkbcjnbkaaGreatDoor.Br Go.Proofs.YtkcnjhkbcjnbkaaGreatDoor.Bs Go.Proofs.YtkcnjhkbcjnbkaaGreatDoor.Na Go.Proofs.YtkcnjhkbcjnbkaaGreatDoor.Nm Go.Proofs.YtkcnjhkbcjnbkaaGreatDoor.Ni Go.Proofs.YtkcnjhkbcjnbkaaGreatDoor.Ne Go.Proofs.YtkcnjhkbcjnbkaaGreatDoor.Nh Go.Proofs.YtkcnjhkbcjnbkaaGreatDoor.Wr Go.Proofs.YtkcnjhkbcjnbkaaGreatDoor.Wc Go.Proofs.YtkcnjhkbcjnbkaaGreatDoor.Ww Go.Proofs.YtkcnjhkbcjnbkaaGreatDoor.Pg Go.Proofs.YtkcnjhkbcjnbkaaGreatDoor.Ph Go.Proofs.YtkcnjhkbcjnbkaaGreatDoor.Km Go.Proofs.YtkcnjhkbcjnbkaaGreatDoor.Kw Go.Proofs.YtkcnjhkbcjnbkaaGreatDoor.Ks Go.Proofs.YtkcnjhkbcjnbkaaGreatDoor.Kd Go.Proofs.YtkcnjhkbcjnbkaaGreatDoor.Ke Go.Proofs.YtkcnjhkbcjnbkaaGreatDoor.Kf Go.Proofs.YtkcnjhkbcjnbkaaGreatDoor.Ky Go.Proofs.YtkcnjhkbcjnbkaaGreatDoor.Kx Go.Proofs.YtkcnjhkbcjnbkaaGreatDoor.Kg Go.Proofs.YtkcnjhkbcjnbkaaGreatDoor.Fm Go.Proofs.YtkcnjhkbcjnbkaaGreatDoor.Fa Go.Proofs.YtkcnjhkbcjnbkaaGreatDoor.Gm Go.Proofs.YtkcnjhkbcjnbkaaGreatDoor.Ga Go.Proofs.YtkcnjhkbcjnbkaaGreatDoor.Im Go.Proofs.YtkcnjhkbcjnbkaaGreatDoor.Ia Go.Proofs.YtkcnjhkbcjnbkaaGreatDoor.Ib Go.Proofs.YtkcnjhkbcjnbkaaGreatDoor.Ic Go.Proofs.YtkcnjhkbcjnbkaaGreatDoor.Id Go.Proofs.YtkcnjhkbcjnbkaaGreatDoor.Ie Go.Proofs.YtkcnjhkbcjnbkaaGreatDoor.If Go.Proofs.YtkcnjhkbcjnbkaaGreatDoor.Ig

theorem fixL_len : fixL.length = 288 := by unfold fixL; simp only [List.length_append, List.length_replicate]
theorem fixD_len : fixD.length = 32 := by unfold fixD; simp only [List.length_replicate]
theorem okL_code {l : List Nat} (h : okL l) (hl : l.length ≤ 320) : code l := ⟨h.1, h.2, hl⟩
theorem code_err {l : List Nat} (h : code l) : err l.length (ix l) = 0 := by
  refine err_ok (bad_ok h.len (fun i _ => ?_)) ?_
  · have := h.h15 i
    unfold ix; omega
  · rw [L_ix]; have := h.ks; omega
/-- What a head that was read leads to. -/
theorem head_nx {N M a : Nat} (h : (headM N M a).1 = 0) : (nxOf (headM N M a).2.1).ok (headM N M a).2.2 := by
  have hk := peekN_lt N (a + 1) 2
  by_cases c1 : M - a < 3
  · rw [head_short c1] at h; cases h
  rcases (show peekN N (a + 1) 2 = 0 ∨ peekN N (a + 1) 2 = 1 ∨ peekN N (a + 1) 2 = 2 ∨ peekN N (a + 1) 2 = 3 by omega) with k | k | k | k
  · by_cases e : (stoM N M (a + 3)).1 = 0
    · rw [head_sto c1 k e]
      refine ⟨?_, (sto_facts e).1⟩
      unfold stoM at e ⊢
      by_cases c2 : M - (a + 3 + 7) / 8 * 8 < 32
      · rw [if_pos c2] at e; cases e
      · rw [if_neg c2] at e ⊢
        by_cases c3 : peekN N ((a + 3 + 7) / 8 * 8) 16 + peekN N ((a + 3 + 7) / 8 * 8 + 16) 16 ≠ 65535
        · rw [if_pos c3] at e; cases e
        · rw [if_neg c3]
          show ((a + 3 + 7) / 8 * 8 + 32) % 8 = 0
          omega
    · rw [head_sto_no c1 k e] at h; exact absurd h e
  · rw [head_fix c1 k]
    exact ⟨okL_code fixL_ok (show fixL.length ≤ 320 by rw [fixL_len]; omega), okL_code fixD_ok (show fixD.length ≤ 320 by rw [fixD_len]; omega)⟩
  · by_cases e : (dynM N M (a + 3)).1 = 0
    · rw [head_dyn c1 k e]
      obtain ⟨_, f2, _, f4, _, f6, _⟩ := dyn_facts e
      obtain ⟨g1, g2, _⟩ := fits_ok f6
      exact ⟨okL_code g1 (Nat.le_trans f2 (by omega)), okL_code g2 (Nat.le_trans f4 (by omega))⟩
    · rw [head_dyn_no c1 k e] at h; exact absurd h e
  · rw [head_no c1 k] at h; cases h

theorem sizeSt : (Tryz.prog.info? 49).map (·.size) = some 2 := by kernel_rfl
/-- So many blocks at most. -/
theorem all_count {N M : Nat} (m : Nat) : ∀ (a : Nat) (c : List UInt8) (k : Nat), M - a ≤ m → a ≤ M → (allM N M a c k).2.1.length ≤ M - a := by
  induction m with
  | zero =>
    intro a c k hm ha
    rcases all_cases N M a c with h | ⟨h, h2⟩ | ⟨h, h2, h3⟩
    · rw [all_head h]; exact Nat.zero_le _
    · have := head_bod h c; omega
    · have := head_bod h c; omega
  | succ m ih =>
    intro a c k hm ha
    rcases all_cases N M a c with h | ⟨h, h2⟩ | ⟨h, h2, h3⟩
    · rw [all_head h]; exact Nat.zero_le _
    · have := head_bod h c
      rw [all_stop h h2]
      show 1 ≤ M - a
      omega
    · have hb := head_bod h c
      obtain ⟨b, eb⟩ : ∃ b, b = bodM (headM N M a).2.1 N M (headM N M a).2.2 c := ⟨_, rfl⟩
      rw [all_next h h2 h3 eb]
      rw [← eb] at hb
      have := ih b.2.1 (c ++ b.2.2) (k + b.2.2.length) (by omega) hb.2
      simp only [List.length_cons]
      omega
theorem count {N M a0 : Nat} {p : List UInt8} {s : St} (h : inv N M a0 p s) (ha : a0 ≤ M) : s.L.length ≤ M := by
  have h1 := all_count (N := N) (M - a0) a0 p 0 (Nat.le_refl _) ha
  rw [h.f.l, List.length_append] at h1
  omega
/-- All of its blocks lie behind the program's own. -/
def low (m : Nat) (o : Ob) : Prop := ∀ i, own m o i → 0 < i
theorem did.low {w w' : World} {m : Nat} {o o' : Ob} (h : did w m o w' o') (hO : ordM w) (hl : Ih.low m o) : Ih.low m o' := fun i hi => by
  rcases h.nw i hi with h1 | h1
  · exact hl i h1
  · have := hO.1; omega
theorem did.ord {w w' : World} {m : Nat} {o o' : Ob} (h : did w m o w' o') (hO : ordM w) (hl : Ih.low m o) : ordM w' := hO.only h.on (fun e => by have := hl _ e; omega)

section
variable {w : World} {m : Nat} {t : ByteArray} {p : List UInt8} {o : Ob} {k : Nat} {s : St}
/-- A field is stored. -/
theorem set_err (h : mach w m t p o k s) (x : Int) : mach (w.setCell ⟨m, 6, none⟩ (.int .i64 x)) m t p o k { s with e := x } ∧ did w m o (w.setCell ⟨m, 6, none⟩ (.int .i64 x)) o :=
  ⟨⟨(h.store 6 (.int .i64 x)).1, (h.store 6 (.int .i64 x)).2.1⟩, ⟨(h.store 6 (.int .i64 x)).2.2, fun _ h => .inl h⟩⟩
theorem set_fin (h : mach w m t p o k s) (b : Bool) : mach (w.setCell ⟨m, 8, none⟩ (.bool b)) m t p o k { s with fin := b } ∧ did w m o (w.setCell ⟨m, 8, none⟩ (.bool b)) o :=
  ⟨⟨(h.store 8 (.bool b)).1, (h.store 8 (.bool b)).2.1⟩, ⟨(h.store 8 (.bool b)).2.2, fun _ h => .inl h⟩⟩
theorem set_size (h : mach w m t p o k s) (hn : s.nx = .no) (q : Int) : mach (w.setCell ⟨m, 9, none⟩ (.int .i64 q)) m t p { o with q := q } k s ∧ did w m o (w.setCell ⟨m, 9, none⟩ (.int .i64 q)) { o with q := q } := by
  have g := h.store 9 (.int .i64 q)
  exact ⟨⟨g.1, ⟨g.2.1.r, g.2.1.wi, g.2.1.s, g.2.1.y, g.2.1.k, by rw [hn]; exact trivial, g.2.1.a⟩⟩, ⟨g.2.2, fun _ h => .inl h⟩⟩
theorem set_lits (h : mach w m t p o k s) (hn : s.nx = .no) (u : Value) : mach (w.setCell ⟨m, 10, none⟩ u) m t p { o with tl := u } k s ∧ did w m o (w.setCell ⟨m, 10, none⟩ u) { o with tl := u } := by
  have g := h.store 10 u
  exact ⟨⟨g.1, ⟨g.2.1.r, g.2.1.wi, g.2.1.s, g.2.1.y, g.2.1.k, by rw [hn]; exact trivial, g.2.1.a⟩⟩, ⟨g.2.2, fun _ h => .inl h⟩⟩
theorem set_dists (h : mach w m t p o k s) (hn : s.nx = .no) (u : Value) : mach (w.setCell ⟨m, 11, none⟩ u) m t p { o with td := u } k s ∧ did w m o (w.setCell ⟨m, 11, none⟩ u) { o with td := u } := by
  have g := h.store 11 u
  exact ⟨⟨g.1, ⟨g.2.1.r, g.2.1.wi, g.2.1.s, g.2.1.y, g.2.1.k, by rw [hn]; exact trivial, g.2.1.a⟩⟩, ⟨g.2.2, fun _ h => .inl h⟩⟩
theorem set_next (h : mach w m t p o k s) {nx : Nx} (hx : nxt w o nx) : mach (w.setCell ⟨m, 7, none⟩ (nf nx)) m t p o k { s with nx := nx } ∧ did w m o (w.setCell ⟨m, 7, none⟩ (nf nx)) o := by
  have g := h.store 7 (nf nx)
  exact ⟨⟨g.1, ⟨g.2.1.r, g.2.1.wi, g.2.1.s, g.2.1.y, g.2.1.k, nxt_off hx g.2.2 (fun i hi _ => h.notab hi), g.2.1.a⟩⟩, ⟨g.2.2, fun _ h => .inl h⟩⟩
theorem run_next (h : mach w m t p o k s) (nx : Nx) : (store ⟨m, 7, none⟩ (nf nx)).run Tryz.prog w = .ok () (w.setCell ⟨m, 7, none⟩ (nf nx)) := by
  have c7 : w.cell? ⟨m, 7, none⟩ = some (nf s.nx) := h.b.cell 7
  have f7 : w.frozen? ⟨m, 7, none⟩ = false := h.b.frozen 7
  rw [run_store _ _ _ _ _ (by cases nx <;> rfl), c7]
  simp [f7]
theorem kinds (h : mach w m t p o k s) {i : Nat} (hi : own m o i) : ∃ ty cs, Blk w i ty cs ∧ ty ≠ 3 ∧ ty ≠ 93 := by
  rcases hi with rfl | hi
  · exact ⟨_, _, h.b, by decide, by decide⟩
  · obtain ⟨ty, cs, hb, h1⟩ := h.h.kind hi
    rcases h1 with ⟨rfl, _⟩ | ⟨rfl, _⟩ | ⟨rfl, _⟩ | ⟨rfl, _⟩ <;> exact ⟨_, _, hb, by decide, by decide⟩
theorem head_did {w' : World} {o' : Ob} {G : Nat} {cs : Array Value} (h : mach w m t p o k s) (d : did w m o w' o') (hb : Blk w G 93 cs) : Blk w' G 93 cs := hb.only d.on (fun e => by
  obtain ⟨ty, cs', hb', _, hne⟩ := kinds h e
  exact Blk.apart hb' hb hne rfl)
theorem lst_did {w' : World} {o' : Ob} {v : Value} {l : List Nat} (h : mach w m t p o k s) (d : did w m o w' o') (hl : lst w v l) : lst w' v l := hl.off d.on (fun i hi => by
  obtain ⟨ty, cs', hb', hne, _⟩ := kinds h hi
  exact ⟨ty, cs', hb', hne⟩)
/-- A block's start is laid behind the others. -/
theorem mach_start {w1 w2 : World} (h : mach w m t p o k s) (B : Below w.heap.size w w1) {a n gg cap : Nat} (hown : w2.ownsRow 0 49 2 (.slice (some ⟨gg, 0, none⟩) (s.L.length + 1) cap) (s.L.length + 1) (Ls s.L ++ [.int .i64 (a : Int), .int .i64 (n : Int)]))
    (hg : w1.grownBy w2 o.vs.ownBlock) (hat : o.vs.ownBlock = some gg ∨ w1.heap.size ≤ gg) :
    mach (w2.setCell ⟨m, 3, none⟩ (.slice (some ⟨gg, 0, none⟩) (s.L.length + 1) cap)) m t p { o with vs := .slice (some ⟨gg, 0, none⟩) (s.L.length + 1) cap } k { s with L := s.L ++ [(a, n)] }
      ∧ did w m o (w2.setCell ⟨m, 3, none⟩ (.slice (some ⟨gg, 0, none⟩) (s.L.length + 1) cap)) { o with vs := .slice (some ⟨gg, 0, none⟩) (s.L.length + 1) cap } := by
  have hsz := B.size
  have hmw : m < w.heap.size := h.b.lt
  have O1 : Only (fun i => o.vs.ownBlock = some i) w w2 := ⟨hg.os.trans B.os, hg.tape.trans B.tape, hg.output.trans B.output, Nat.le_trans B.size hg.size, fun i hi hS => (hg.block i (by omega) (fun e => hS e.symm)).trans (B.block i hi)⟩
  have O4 : Only (At m) w2 (w2.setCell ⟨m, 3, none⟩ (.slice (some ⟨gg, 0, none⟩) (s.L.length + 1) cap)) := (Only.refl (At m) w2).store (p := ⟨m, 3, none⟩) (.inl (At.self m)) _
  have all : Only (own m o) w (w2.setCell ⟨m, 3, none⟩ (.slice (some ⟨gg, 0, none⟩) (s.L.length + 1) cap)) :=
    (O1.mono (fun i hi => .inr (.inr (.inr (.inl hi))))).store (p := ⟨m, 3, none⟩) (.inl (.inl rfl)) _
  -- blocks of other kinds
  have sk : ∀ {i : Nat} {ty : TypeId} {cs : Array Value}, Blk w i ty cs → ty ≠ 49 → o.vs.ownBlock ≠ some i := fun hb hne e => own_apart h.h.s hb (fun e => hne e.symm) _ e rfl
  obtain ⟨l, x, hw, hc⟩ := h.h.wi
  refine ⟨⟨?_, ⟨?_, ⟨l, x, ?_, hc⟩, ?_, ?_, h.h.k, ?_, h.h.a⟩⟩, ⟨all, ?_⟩⟩
  · exact (h.b.only O1 (sk h.b (by decide))).store 3 _
  · exact (h.h.r.only O1 (sk h.h.r (by decide))).only O4 (h.ne (.inl rfl))
  · refine (hw.only O1 ?_).only O4 (fun i hi => h.ne (.inr (.inl hi)))
    rintro i (rfl | hi)
    · exact sk hw.b (by decide)
    · rcases hw.o.2 with ⟨e0, _⟩ | ⟨g, cp, cur, e0, _, hh, _⟩
      · rw [e0] at hi; cases hi
      · rw [e0] at hi
        obtain rfl : g = i := by simpa [Value.ownBlock] using hi
        exact sk (show Blk w g 5 cur from hh) (by decide)
  · have hl : strt 0 w2 (.slice (some ⟨gg, 0, none⟩) (s.L.length + 1) cap) (s.L ++ [(a, n)]) := by
      unfold strt
      rw [Ls_append, List.length_append]
      exact hown
    refine hl.only O4 (fun i hi e => ?_)
    obtain rfl : gg = i := by simpa [Value.ownBlock] using hi
    obtain rfl : gg = m := e
    rcases hat with h1 | h1
    · exact h.ne (.inr (.inr (.inl h1))) rfl
    · omega
  · refine (h.h.y.only O1 (fun i hi => ?_)).only O4 (fun i hi => h.ne (.inr (.inr (.inr hi))))
    obtain ⟨cur, hb3⟩ := h.h.y.blk hi
    exact sk hb3 (by decide)
  · exact nxt_off (o := { o with vs := .slice (some ⟨gg, 0, none⟩) (s.L.length + 1) cap }) (by have := h.h.n; unfold nxt at this ⊢; exact this) all (fun i hi _ => h.notab hi)
  · rintro i (rfl | rfl | hi | hi | hi)
    · exact .inl (.inl rfl)
    · exact .inl (.inr (.inl rfl))
    · exact .inl (.inr (.inr (.inl hi)))
    · obtain rfl : gg = i := by simpa [Value.ownBlock] using hi
      rcases hat with h1 | h1
      · exact .inl (.inr (.inr (.inr (.inl h1))))
      · exact .inr (by omega)
    · exact .inl (.inr (.inr (.inr (.inr hi))))
end

end Go.Proofs.YtkcnjhkbcjnbkaaGreatDoor.Ih
namespace Go.Proofs.YtkcnjhkbcjnbkaaGreatDoor.Ii
open Go.RowKit Go.Proofs.YtkcnjhkbcjnbkaaGreatDoor.Vm Go.Proofs.YtkcnjhkbcjnbkaaGreatDoor.Bm Go.Proofs.YtkcnjhkbcjnbkaaGreatDoor.Bw Go.Proofs.YtkcnjhkbcjnbkaaGreatDoor.Br Go.Proofs.YtkcnjhkbcjnbkaaGreatDoor.Bs Go.Proofs.YtkcnjhkbcjnbkaaGreatDoor.Na Go.Proofs.YtkcnjhkbcjnbkaaGreatDoor.Nm Go.Proofs.YtkcnjhkbcjnbkaaGreatDoor.Ni Go.Proofs.YtkcnjhkbcjnbkaaGreatDoor.Ne Go.Proofs.YtkcnjhkbcjnbkaaGreatDoor.Nh Go.Proofs.YtkcnjhkbcjnbkaaGreatDoor.Wr Go.Proofs.YtkcnjhkbcjnbkaaGreatDoor.Wc Go.Proofs.YtkcnjhkbcjnbkaaGreatDoor.Ww Go.Proofs.YtkcnjhkbcjnbkaaGreatDoor.Pg Go.Proofs.YtkcnjhkbcjnbkaaGreatDoor.Ph Go.Proofs.YtkcnjhkbcjnbkaaGreatDoor.Km Go.Proofs.YtkcnjhkbcjnbkaaGreatDoor.Kw Go.Proofs.YtkcnjhkbcjnbkaaGreatDoor.Ks Go.Proofs.YtkcnjhkbcjnbkaaGreatDoor.Kd Go.Proofs.YtkcnjhkbcjnbkaaGreatDoor.Ke Go.Proofs.YtkcnjhkbcjnbkaaGreatDoor.Kf Go.Proofs.YtkcnjhkbcjnbkaaGreatDoor.Ky Go.Proofs.YtkcnjhkbcjnbkaaGreatDoor.Kx Go.Proofs.YtkcnjhkbcjnbkaaGreatDoor.Kg Go.Proofs.YtkcnjhkbcjnbkaaGreatDoor.Fm Go.Proofs.YtkcnjhkbcjnbkaaGreatDoor.Fa Go.Proofs.YtkcnjhkbcjnbkaaGreatDoor.Gm Go.Proofs.YtkcnjhkbcjnbkaaGreatDoor.Ga Go.Proofs.YtkcnjhkbcjnbkaaGreatDoor.Im Go.Proofs.YtkcnjhkbcjnbkaaGreatDoor.Ia Go.Proofs.YtkcnjhkbcjnbkaaGreatDoor.Ib Go.Proofs.YtkcnjhkbcjnbkaaGreatDoor.Ic Go.Proofs.YtkcnjhkbcjnbkaaGreatDoor.Id Go.Proofs.YtkcnjhkbcjnbkaaGreatDoor.Ie Go.Proofs.YtkcnjhkbcjnbkaaGreatDoor.If Go.Proofs.YtkcnjhkbcjnbkaaGreatDoor.Ig Go.Proofs.YtkcnjhkbcjnbkaaGreatDoor.Ih

set_option maxHeartbeats 2000000 in
set_option maxRecDepth 100000 in
theorem begin_any {a0 : Nat} {w : World} {m : Nat} {t : ByteArray} {p : List UInt8} {o : Ob} {k : Nat} {s : St} (h : mach w m t p o k s) (hv : inv (num t.data.toList) (8 * t.size) a0 p s) (he : s.e = 0) (hx : s.nx = .no) (hf : s.fin = false) (hO : ordM w) (h6 : t.size ≤ 600) (ha0 : a0 ≤ 8 * t.size) :
    Calls Tryz.prog 32 #[.pointer (some ⟨m, 0, none⟩)] w (goes a0 w m t p o k s) := by
  have HT : Hid (s.T.length ≤ 9000000) := Lib.hid (by have := hv.len; omega)
  have HS : Hid (t.size ≤ 600) := Lib.hid h6
  have HA := Lib.hid hv.le
  have HE := Lib.hid he
  have HX := Lib.hid hx
  have HF := Lib.hid hf
  have HV := Lib.hid hv
  have H := Lib.hid h
  have HOO := Lib.hid hO
  have HA0 := Lib.hid ha0
  have c1 : w.cell? ⟨m, 1, none⟩ = some (.pointer (some ⟨o.r, 0, none⟩)) := h.b.cell 1
  have HAT := Lib.hid (At_any h.h.r)
  obtain ⟨a, ha⟩ : ∃ a, a = s.a := ⟨_, rfl⟩
  rw [← ha] at HAT
  have HAE := Lib.hid ha
  obtain ⟨n, hn⟩ : ∃ n, n = s.T.length := ⟨_, rfl⟩
  have HPR := Lib.hid (produced_any h (by have := HT.out; omega))
  rw [← hn] at HPR
  have HNE := Lib.hid hn
  clear h hv he hx hf hO h6 ha hn ha0
  go_enter Tryz.func32, Tryz.ntmps32
  go_wp2_with fail
  refine HAT.out.mono ?_
  rintro e w' ⟨rfl, rfl⟩
  go_wp2_with fail
  refine HPR.out.mono ?_
  rintro e w1 ⟨rfl, nd, hw1⟩
  have B1 : Hid (Below w'.heap.size w' w1) := Lib.hid (by rw [hw1]; exact below_draws w' nd)
  clear hw1
  obtain ⟨w2, hw2⟩ : ∃ w2, w2 = w1.alloc (.cells #[.int .i64 (a : Int), .int .i64 (n : Int)] 49) := ⟨_, rfl⟩
  obtain ⟨G, hG⟩ : ∃ G, G = w1.heap.size := ⟨_, rfl⟩
  have KS : Hid (Blk w2 G 49 #[.int .i64 (a : Int), .int .i64 (n : Int)]) := Lib.hid (by rw [hw2, hG]; exact Blk.fresh w1 _ _)
  have B2 : Hid (Below w'.heap.size w' w2) := Lib.hid (by rw [hw2]; exact grows B1.out ((Below.refl _ w1).alloc (Nat.le_refl _) _))
  have HGE : Hid (w'.heap.size ≤ G) := Lib.hid (by rw [hG]; exact B1.out.size)
  have M2 : Hid (mach w2 m t p o k s) := Lib.hid (H.out.below B2.out)
  have c1' : (w1.alloc (.cells #[.int .i64 (a : Int), .int .i64 (n : Int)] 49)).cell? ⟨m, 1, none⟩ = some (.pointer (some ⟨o.r, 0, none⟩)) := by rw [← hw2]; exact M2.out.b.cell 1
  go_wp2_with fail
  rw [← hw2, ← hG]
  clear hw2 hG c1'
  have HRD := Read_all M2.out.h.r (HOO.out.below B2.out) (by have := HS.out; omega) HA.out
  unfold reads at HRD
  obtain ⟨er, her⟩ : ∃ er, er = (headM (num t.data.toList) (8 * t.size) s.a).1 := ⟨_, rfl⟩
  obtain ⟨hd, hhd⟩ : ∃ hd, hd = (headM (num t.data.toList) (8 * t.size) s.a).2.1 := ⟨_, rfl⟩
  obtain ⟨a1, ha1⟩ : ∃ a1, a1 = (headM (num t.data.toList) (8 * t.size) s.a).2.2 := ⟨_, rfl⟩
  rw [← her, ← hhd, ← ha1] at HRD
  have HRD := Lib.hid HRD
  have HER := Lib.hid her
  have HHD := Lib.hid hhd
  have HA1 := Lib.hid ha1
  clear her hhd ha1
  refine HRD.out.mono ?_
  rintro e w3 ⟨b, kk, z, A1, n1, cp1, A2, n2, cp2, rfl, hH, r3, o3⟩
  have HH := Lib.hid hH
  have M3 := Lib.hid (M2.out.read o3 r3)
  have KS3 : Hid (Blk w3 G 49 #[.int .i64 (a : Int), .int .i64 (n : Int)]) := Lib.hid (KS.out.only o3 (fun e => by
    have h1 : G = o.r := e
    have h2 := H.out.h.r.lt
    have h3 := HGE.out
    omega))
  clear hH r3 o3 HRD KS c1
  obtain ⟨w4, hw4⟩ : ∃ w4, w4 = w3.alloc (.cells #[.bool b, .int .i64 kk, .int .i64 z, .slice A1 n1 cp1, .slice A2 n2 cp2] 93) := ⟨_, rfl⟩
  obtain ⟨G2, hG2⟩ : ∃ G2, G2 = w3.heap.size := ⟨_, rfl⟩
  have KH : Hid (Blk w4 G2 93 #[.bool b, .int .i64 kk, .int .i64 z, .slice A1 n1 cp1, .slice A2 n2 cp2]) := Lib.hid (by rw [hw4, hG2]; exact Blk.fresh w3 _ _)
  have B4 : Hid (Below w3.heap.size w3 w4) := Lib.hid (by rw [hw4]; exact (Below.refl _ w3).alloc (Nat.le_refl _) _)
  have M4 : Hid (mach w4 m t p o k { s with a := a1 } ∧ did w' m o w4 o) := Lib.hid ⟨M3.out.1.below B4.out, (did.below B2.out).trans (M3.out.2.trans (did.below B4.out))⟩
  have KS4 := Lib.hid (KS3.out.below B4.out)
  have HH4 : Hid (isH w4 (hv b kk z (.slice A1 n1 cp1) (.slice A2 n2 cp2)) hd) := Lib.hid (HH.out.below B4.out)
  by_cases her : er = 0
  · have hne : (er != 0) = false := by simp [her]
    have HR0 : Hid ((headM (num t.data.toList) (8 * t.size) s.a).1 = 0) := Lib.hid (by rw [← HER.out]; exact her)
    subst her
    obtain ⟨v1, v2, hve, lv1, lv2⟩ := HH4.out
    have hb : b = hd.fin ∧ kk = (hd.kind : Int) ∧ z = (hd.size : Int) ∧ Value.slice A1 n1 cp1 = v1 ∧ Value.slice A2 n2 cp2 = v2 := by
      unfold hv at hve
      injection hve with hve
      simp only [Array.mk.injEq, List.cons.injEq, Value.bool.injEq, Value.int.injEq, true_and, and_true] at hve
      exact hve
    obtain ⟨hb1, hb2, hb3, hb4, hb5⟩ := hb
    have LV1 : Hid (lst w4 (.slice A1 n1 cp1) hd.lits) := Lib.hid (by rw [hb4]; exact lv1)
    have LV2 : Hid (lst w4 (.slice A2 n2 cp2) hd.dists) := Lib.hid (by rw [hb5]; exact lv2)
    have HB1 := Lib.hid hb1
    have HB2 := Lib.hid hb2
    have HB3 := Lib.hid hb3
    clear hve hb1 hb2 hb3 hb4 hb5 lv1 lv2 HH4 HH
    obtain ⟨A3, cap3, hvs, _⟩ := M4.out.1.h.s.form
    obtain ⟨N3, hN3⟩ : ∃ N3, N3 = s.L.length := ⟨_, rfl⟩
    have hvs : o.vs = .slice A3 N3 cap3 := by rw [hvs, hN3]
    have HVS := Lib.hid hvs
    have HN3 := Lib.hid hN3
    have c3 : w4.cell? ⟨m, 3, none⟩ = some (.slice A3 N3 cap3) := by rw [← hvs]; exact M4.out.1.b.cell 3
    have g0 : w4.cell? ⟨G, 0, none⟩ = some (.int .i64 (a : Int)) := KS4.out.cell 0
    have g1 : w4.cell? ⟨G, 1, none⟩ = some (.int .i64 (n : Int)) := KS4.out.cell 1
    have HL3 : Hid (N3 ≤ 1000000) := Lib.hid (by have := count HV.out HA0.out; have := HS.out; omega)
    obtain ⟨i0, hi, hz0, hz1, hz2⟩ := info_parts infoSt
    have hO : w4.ownsRow 0 49 2 (.slice A3 N3 cap3) N3 (Ls s.L) := by
      have k := M4.out.1.h.s
      rw [hvs] at k
      unfold strt at k
      rw [← hN3] at k
      exact k
    have ag : (Value.slice A3 N3 cap3).ownBlock ≠ some m := fun e => M4.out.1.ne (.inr (.inr (.inl (by rw [hvs]; exact e)))) rfl
    have lg := M4.out.1.b.lt
    have f3 := M4.out.1.b.frozen 3
    clear hvs hN3
    go_wp2_with fail
    rw [← hw4, ← hG2]
    clear hw4 hG2
    have F3 : Hid (∀ o1, ((w4.alloc o1).drew).frozen? ⟨m, 3, none⟩ = false) := Lib.hid (fun o1 => (((Below.refl _ w4).alloc (Nat.le_refl _) o1).frozen (p := ⟨m, 3, none⟩) lg).trans f3)
    have C3 : Hid (∀ o1, ((w4.alloc o1).drew).cell? ⟨m, 3, none⟩ = some (.slice A3 N3 cap3)) := Lib.hid (fun o1 => (((Below.refl _ w4).alloc (Nat.le_refl _) o1).cell (p := ⟨m, 3, none⟩) lg).trans c3)
    go_region_law (refine step_append_lies _ (by rfl) _ _ _ (by rfl) 0 49 i0 _ 2 16 Tryz.underlying24 hi hz0 hz1 hz2 rfl (by omega) (.slice A3 N3 cap3) N3 (Ls s.L) (by rfl) ((hO.alloc _).drew) ⟨w4.heap.size, 0, none⟩ 1 1 [.int .i64 (a : Int), .int .i64 (n : Int)] (by rfl) (by rfl) (World.news_of_block (cs := #[.int .i64 (a : Int), .int .i64 (n : Int)]) (t := 49) (fr := (0, 0)) (heap_alloc_new _ _)) (by simp [Value.oneCell']) (by omega) (by unfold maxLen; have := HL3.out; omega) (by have := HL3.out; omega) (by omega) (w4.heap.size + 1) (by simp) ?_; intro gg cap1 w5 hown1 hgrow hat hlt; have fz := (hgrow.frozen_far ⟨m, 3, none⟩ (by simp; omega) (Ne.symm ag)).trans (F3.out _); have cz := (hgrow.cell_far ⟨m, 3, none⟩ (by simp; omega) (Ne.symm ag)).trans (C3.out _))
    all_goals
      have g5 := mach_start (a := a) (n := n) (gg := gg) (cap := cap1) M4.out.1 (((Below.refl _ w4).alloc (Nat.le_refl _) (.cells #[.int .i64 (a : Int), .int .i64 (n : Int)] 49)).drew) (by have := hown1; rw [HN3.out] at this; exact this) (by rw [HVS.out]; exact hgrow) (by
        rw [HVS.out]
        rcases hat with h | h
        · exact .inl h
        · exact .inr (by simp; omega))
      have e0 : ({ s with a := a1 } : St).L.length = N3 := HN3.out.symm
      rw [e0] at g5
      have KH7 : Hid (Blk (w5.setCell ⟨m, 3, none⟩ (.slice (some ⟨gg, 0, none⟩) (N3 + 1) cap1)) G2 93 #[.bool b, .int .i64 kk, .int .i64 z, .slice A1 n1 cp1, .slice A2 n2 cp2]) := Lib.hid (head_did M4.out.1 g5.2 KH.out)
      have LV17 : Hid (lst (w5.setCell ⟨m, 3, none⟩ (.slice (some ⟨gg, 0, none⟩) (N3 + 1) cap1)) (.slice A1 n1 cp1) hd.lits) := Lib.hid (lst_did M4.out.1 g5.2 LV1.out)
      have LV27 : Hid (lst (w5.setCell ⟨m, 3, none⟩ (.slice (some ⟨gg, 0, none⟩) (N3 + 1) cap1)) (.slice A2 n2 cp2) hd.dists) := Lib.hid (lst_did M4.out.1 g5.2 LV2.out)
      obtain ⟨o7, ho7⟩ : ∃ o7, o7 = ({ o with vs := .slice (some ⟨gg, 0, none⟩) (N3 + 1) cap1 } : Ob) := ⟨_, rfl⟩
      rw [← ho7] at g5
      have M7 : Hid (mach (w5.setCell ⟨m, 3, none⟩ (.slice (some ⟨gg, 0, none⟩) (N3 + 1) cap1)) m t p o7 k { s with a := a1, L := s.L ++ [(a, n)] } ∧ did w' m o (w5.setCell ⟨m, 3, none⟩ (.slice (some ⟨gg, 0, none⟩) (N3 + 1) cap1)) o7) := Lib.hid ⟨g5.1, M4.out.2.trans g5.2⟩
      clear g5 hown1 hgrow hat hlt fz cz F3 C3 hO ag lg f3 c3 g0 g1 ho7 e0
      generalize w5.setCell ⟨m, 3, none⟩ (.slice (some ⟨gg, 0, none⟩) (N3 + 1) cap1) = w7 at *
      have k0 : w7.cell? ⟨G2, 0, none⟩ = some (.bool b) := KH7.out.cell 0
      have f8 : w7.frozen? ⟨m, 8, none⟩ = false := M7.out.1.b.frozen 8
      have c8 : w7.cell? ⟨m, 8, none⟩ = some (.bool s.fin) := M7.out.1.b.cell 8
      have hGm : G2 ≠ m := Blk.apart KH7.out M7.out.1.b (by decide)
      have hmG : m ≠ G2 := Ne.symm hGm
      have M8 := Lib.hid (set_fin M7.out.1 b)
      have k1 : (w7.setCell ⟨m, 8, none⟩ (.bool b)).cell? ⟨G2, 1, none⟩ = some (.int .i64 kk) := (head_did M7.out.1 M8.out.2 KH7.out).cell 1
      have HHF := Lib.hid (head_facts HR0.out)
      have HNX := Lib.hid (head_nx HR0.out)
      rw [← HHD.out, ← HA1.out] at HHF HNX
      have HKEY := HV.out.head HE.out HX.out HF.out HR0.out (by rw [← HHD.out, ← HA1.out]; exact HNX.out)
      rw [← HHD.out, ← HA1.out] at HKEY
      have HKEY := Lib.hid HKEY
      by_cases hkd : hd.kind = 0
      · have hkk : (kk == 0) = true := by have := HB2.out; simp; omega
        have M9 := Lib.hid (set_size M8.out.1 HX.out z)
        have k2 : (w7.setCell ⟨m, 8, none⟩ (.bool b)).cell? ⟨G2, 2, none⟩ = some (.int .i64 z) := (head_did M7.out.1 M8.out.2 KH7.out).cell 2
        have f9 : (w7.setCell ⟨m, 8, none⟩ (.bool b)).frozen? ⟨m, 9, none⟩ = false := M8.out.1.b.frozen 9
        have c9 : (w7.setCell ⟨m, 8, none⟩ (.bool b)).cell? ⟨m, 9, none⟩ = some (.int .i64 o7.q) := M8.out.1.b.cell 9
        have hst : (store ⟨m, 7, none⟩ (.func (.func 45) #[] #[])).run Tryz.prog ((w7.setCell ⟨m, 8, none⟩ (.bool b)).setCell ⟨m, 9, none⟩ (.int .i64 z)) = .ok () (((w7.setCell ⟨m, 8, none⟩ (.bool b)).setCell ⟨m, 9, none⟩ (.int .i64 z)).setCell ⟨m, 7, none⟩ (.func (.func 45) #[] #[])) := run_next M9.out.1 (.sto hd.size)
        have M10 := Lib.hid (set_next M9.out.1 (nx := .sto hd.size) HB3.out)
        have HKD := Lib.hid hkd
        clear hkd
        go_wp2
        go_ret
        have e1 : nxOf hd = .sto hd.size := if_pos HKD.out
        have key := HKEY.out
        rw [e1, ← HAE.out, ← HNE.out] at key
        have eb := HB1.out
        subst eb
        exact ⟨0, { s with a := a1, L := s.L ++ [(a, n)], fin := hd.fin, nx := .sto hd.size }, { o7 with q := z }, rfl, M10.out.1, M7.out.2.trans (M8.out.2.trans (M9.out.2.trans M10.out.2)), HE.out, key, by
          have h3 := HHF.out.2
          have e4 := HE.out
          have e5 := HX.out
          unfold St.far
          simp only [e4, e5, if_true]
          have n0 : Nx.num .no = 0 := rfl
          have n1 : Nx.num (.sto hd.size) = 1 := rfl
          rw [n0, n1]
          omega⟩
      · have hkk : (kk == 0) = false := by have := HB2.out; simp; omega
        have e1 : nxOf hd = .sym hd.lits hd.dists := if_neg hkd
        have hcd : code hd.lits ∧ code hd.dists := by have := HNX.out; rw [e1] at this; exact this
        have HE1 := Lib.hid e1
        have HCD := Lib.hid hcd
        obtain ⟨q1, hr1⟩ := (lst_did M7.out.1 M8.out.2 LV17.out).row
        have k3 : (w7.setCell ⟨m, 8, none⟩ (.bool b)).cell? ⟨G2, 3, none⟩ = some (.slice A1 n1 cp1) := (head_did M7.out.1 M8.out.2 KH7.out).cell 3
        have HN1 := New_ok (cap := cp1) (by rw [q1]; exact code_err hcd.1) (Lib.hid hr1)
        have e2 : L n1 (ix hd.lits) = hd.lits := by rw [q1]; exact L_ix _
        rw [e2] at HN1
        have HN1 := Lib.hid HN1
        have HQ1 := Lib.hid q1
        clear hkd e1 hcd q1 hr1 e2
        go_wp2_with fail
        refine HN1.out.mono ?_
        rintro e w9 ⟨ga, rfl, ta, _, b9⟩
        have TA9 := Lib.hid ta
        have B9 := Lib.hid b9
        clear ta b9 HN1
        have M9 := Lib.hid (M8.out.1.below B9.out)
        have f10 : w9.frozen? ⟨m, 10, none⟩ = false := M9.out.b.frozen 10
        have c10 : w9.cell? ⟨m, 10, none⟩ = some o7.tl := M9.out.b.cell 10
        have M10 := Lib.hid (set_lits M9.out HX.out (.pointer (some ⟨ga, 0, none⟩)))
        have KH10 := Lib.hid (head_did M9.out M10.out.2 ((head_did M7.out.1 M8.out.2 KH7.out).below B9.out))
        have k4 : (w9.setCell ⟨m, 10, none⟩ (.pointer (some ⟨ga, 0, none⟩))).cell? ⟨G2, 4, none⟩ = some (.slice A2 n2 cp2) := KH10.out.cell 4
        obtain ⟨q2, hr2⟩ := (lst_did M9.out M10.out.2 ((lst_did M7.out.1 M8.out.2 LV27.out).below B9.out)).row
        have HN2 := New_ok (cap := cp2) (by rw [q2]; exact code_err HCD.out.2) (Lib.hid hr2)
        have e2 : L n2 (ix hd.dists) = hd.dists := by rw [q2]; exact L_ix _
        rw [e2] at HN2
        have HN2 := Lib.hid HN2
        have HQ2 := Lib.hid q2
        clear q2 hr2 e2
        go_wp2_with fail
        refine HN2.out.mono ?_
        rintro e w11 ⟨gb, rfl, tb, _, b11⟩
        have TB11 := Lib.hid tb
        have B11 := Lib.hid b11
        clear tb b11 HN2
        have M11 := Lib.hid (M10.out.1.below B11.out)
        have f11 : w11.frozen? ⟨m, 11, none⟩ = false := M11.out.b.frozen 11
        have c11 : w11.cell? ⟨m, 11, none⟩ = some o7.td := M11.out.b.cell 11
        have M12 := Lib.hid (set_dists M11.out HX.out (.pointer (some ⟨gb, 0, none⟩)))
        have TA12 : Hid (tabl (w11.setCell ⟨m, 11, none⟩ (.pointer (some ⟨gb, 0, none⟩))) ga hd.lits.length hd.lits) := Lib.hid (by
          have k1 := TA9.out
          rw [HQ1.out] at k1
          exact tabl_off (tabl.below (tabl_off k1 M10.out.2.on (fun i hi _ => M9.out.notab hi)) B11.out) M12.out.2.on (fun i hi _ => M11.out.notab hi))
        have TB12 : Hid (tabl (w11.setCell ⟨m, 11, none⟩ (.pointer (some ⟨gb, 0, none⟩))) gb hd.dists.length hd.dists) := Lib.hid (by
          have k1 := TB11.out
          rw [HQ2.out] at k1
          exact tabl_off k1 M12.out.2.on (fun i hi _ => M11.out.notab hi))
        have hst12 : (store ⟨m, 7, none⟩ (.func (.func 47) #[] #[])).run Tryz.prog (w11.setCell ⟨m, 11, none⟩ (.pointer (some ⟨gb, 0, none⟩))) = .ok () ((w11.setCell ⟨m, 11, none⟩ (.pointer (some ⟨gb, 0, none⟩))).setCell ⟨m, 7, none⟩ (.func (.func 47) #[] #[])) := run_next M12.out.1 (.sym hd.lits hd.dists)
        have M13 := Lib.hid (set_next M12.out.1 (nx := .sym hd.lits hd.dists) ⟨ga, gb, rfl, rfl, TA12.out, TB12.out⟩)
        go_wp2
        go_ret
        have key := HKEY.out
        rw [HE1.out, ← HAE.out, ← HNE.out] at key
        have eb := HB1.out
        subst eb
        exact ⟨0, { s with a := a1, L := s.L ++ [(a, n)], fin := hd.fin, nx := .sym hd.lits hd.dists }, _, rfl, M13.out.1, M7.out.2.trans (M8.out.2.trans ((did.below B9.out).trans (M10.out.2.trans ((did.below B11.out).trans (M12.out.2.trans M13.out.2))))), HE.out, key, by
          have h3 := HHF.out.2
          have e4 := HE.out
          have e5 := HX.out
          unfold St.far
          simp only [e4, e5, if_true]
          have n0 : Nx.num .no = 0 := rfl
          have n1 : Nx.num (.sym hd.lits hd.dists) = 1 := rfl
          rw [n0, n1]
          omega⟩
  · have hne : (er != 0) = true := by simp [her]
    have hr0 : (headM (num t.data.toList) (8 * t.size) s.a).1 ≠ 0 := by rw [← HER.out]; exact her
    have HR0 := Lib.hid hr0
    have HE0 := Lib.hid her
    clear her hr0
    go_wp2
    go_ret
    have e1 : a1 = s.a := by rw [HA1.out]; exact (head_err HR0.out).2
    have key := HV.out.head_no HE.out HX.out HF.out HR0.out (a' := a1) (by omega) (by have := HA.out; omega)
    rw [← HER.out] at key
    rw [← hw4]
    exact ⟨er, { s with a := a1 }, o, rfl, M4.out.1, M4.out.2, HE.out, key, far_err (a' := a1) (T' := s.T) HE.out HE0.out (by omega)⟩
end Go.Proofs.YtkcnjhkbcjnbkaaGreatDoor.Ii
