/-
  BlockBack: a head that was written is read as it was, wherever it stands, and the reader stands behind it.
  Conditions: none.
  The walk of the call.
-/
import Derived.Test.YtgbdecnaamlekaaDoorQbe
import Derived.Test.YtgbdecnaamlekaaDoorQaz
import Derived.Test.YtgbdecnaamlekaaDoorQal
import Derived.Deep.RegionHeld3
namespace Go.Proofs.YtgbdecnaamlekaaDoor.blockBack
open Go.RowKit Go.Proofs.YtgbdecnaamlekaaDoor.Vm Go.Proofs.YtgbdecnaamlekaaDoor.Vo Go.Proofs.YtgbdecnaamlekaaDoor.Bm Go.Proofs.YtgbdecnaamlekaaDoor.Bt Go.Proofs.YtgbdecnaamlekaaDoor.Bw Go.Proofs.YtgbdecnaamlekaaDoor.Bp Go.Proofs.YtgbdecnaamlekaaDoor.Bs Go.Proofs.YtgbdecnaamlekaaDoor.Bv Go.Proofs.YtgbdecnaamlekaaDoor.Bx Go.Proofs.YtgbdecnaamlekaaDoor.Na Go.Proofs.YtgbdecnaamlekaaDoor.Nf Go.Proofs.YtgbdecnaamlekaaDoor.Nm Go.Proofs.YtgbdecnaamlekaaDoor.Ni Go.Proofs.YtgbdecnaamlekaaDoor.Ne Go.Proofs.YtgbdecnaamlekaaDoor.Nh Go.Proofs.YtgbdecnaamlekaaDoor.Pm Go.Proofs.YtgbdecnaamlekaaDoor.Pw Go.Proofs.YtgbdecnaamlekaaDoor.Pi Go.Proofs.YtgbdecnaamlekaaDoor.Ko Go.Proofs.YtgbdecnaamlekaaDoor.Ka Go.Proofs.YtgbdecnaamlekaaDoor.Kb Go.Proofs.YtgbdecnaamlekaaDoor.Km Go.Proofs.YtgbdecnaamlekaaDoor.Kw Go.Proofs.YtgbdecnaamlekaaDoor.Ks Go.Proofs.YtgbdecnaamlekaaDoor.Kc Go.Proofs.YtgbdecnaamlekaaDoor.Kd Go.Proofs.YtgbdecnaamlekaaDoor.Ke Go.Proofs.YtgbdecnaamlekaaDoor.Ky Go.Proofs.YtgbdecnaamlekaaDoor.Kx Go.Proofs.YtgbdecnaamlekaaDoor.Ku Go.Proofs.YtgbdecnaamlekaaDoor.Kh Go.Proofs.YtgbdecnaamlekaaDoor.Ki Go.Proofs.YtgbdecnaamlekaaDoor.Kl Go.Proofs.YtgbdecnaamlekaaDoor.Kn Go.Proofs.YtgbdecnaamlekaaDoor.Kp Go.Proofs.YtgbdecnaamlekaaDoor.Kf Go.Proofs.YtgbdecnaamlekaaDoor.Kk Go.Proofs.YtgbdecnaamlekaaDoor.Kg Go.Proofs.YtgbdecnaamlekaaDoor.Br

theorem ones : ∀ n, n < 9 → wrap64 (wrap64 (2 ^ n) - 1) = ((2 ^ n - 1 : Nat) : Int) := by decide +kernel
theorem ones_lt : ∀ n, n < 9 → 2 ^ n - 1 < 2 ^ n := by decide
/-- A head that Write takes, as it is read again. -/
theorem back_val {h : Hd} : (back h).fin = h.fin := by unfold back; split <;> (try split) <;> rfl
theorem outM_le {h : Hd} (ok : okH h) (n : Nat) : bl (outM h n) ≤ 1400 := by
  have hk := ok.k
  unfold outM
  rw [bl_append]
  rcases (show h.kind = 0 ∨ h.kind = 1 ∨ h.kind = 2 by omega) with h0 | h0 | h0
  · rw [if_pos h0]
    have : padZ (n + 3) ≤ 8 := by unfold padZ; omega
    simp only [bl]; omega
  · rw [if_neg (by omega), if_pos h0]
    simp only [bl]; omega
  · rw [if_neg (by omega), if_neg (by omega), outD_bl]
    have := ok.l h0
    simp only [bl]; omega
/-- What was written of a head, read from the text. -/
theorem text_back {h : Hd} (ok : okH h) {bs : List UInt8} {N n : Nat} (hN : N < 2 ^ n) (e : num bs = N + bn (outM h n) * 2 ^ n) (hl : bs.length = (n + bl (outM h n) + 7) / 8) : headM (num bs) (8 * bs.length) n = (0, back h, n + bl (outM h n)) := by
  refine head_back ok ?_ (by omega)
  rw [e]
  exact Go.Proofs.YtgbdecnaamlekaaDoor.Kw.written hN (outM_fits ok n)

set_option maxHeartbeats 8000000 in
set_option maxRecDepth 100000 in
theorem walk (b : Bool) (k z : Int) (A1 : Option Addr) (n1 c1 : Nat) (f1 : Nat → Int) (A2 : Option Addr) (n2 c2 : Nat) (f2 : Nat → Int) (a : Int) (w : World) (_wk : (Lit.int .i64 k).wf = true) (_wz : (Lit.int .i64 z).wf = true)
    (l1 : n1 ≤ 9223372036854775807) (r1 : row w A1 n1 f1) (l2 : n2 ≤ 9223372036854775807) (r2 : row w A2 n2 f2) (wa : (Lit.int .u8 a).wf = true) (hO : ordM w) :
    Calls Tryd.prog 5 #[.agg #[.bool b, .int .i64 k, .int .i64 z, .slice A1 n1 c1, .slice A2 n2 c2], .int .u8 a] w fun e w' => e = .returned (.bool true) ∧ Below w.heap.size w w' := by
  clear _wk _wz
  have ha : 0 ≤ a ∧ a ≤ 255 := by simpa [Lit.wf, IntKind.min, IntKind.max, IntKind.signed, IntKind.bits] using wa
  obtain ⟨an, han⟩ := Int.eq_ofNat_of_zero_le ha.1
  subst han
  have ha5 : an ≤ 255 := by omega
  clear wa ha
  have HL := fun u => Lib.hid (light_any b k z A1 n1 c1 A2 n2 c2 u)
  obtain ⟨w1, hw1⟩ : ∃ w1, w1 = w.alloc (.cells #[.bool b, .int .i64 k, .int .i64 z, .slice A1 n1 c1, .slice A2 n2 c2] 36) := ⟨_, rfl⟩
  have b1 : Below w.heap.size w w1 := by rw [hw1]; exact below_alloc _ _
  have HB1 := Lib.hid b1
  have HX1 : Hid (Blk w1 w.heap.size 36 #[.bool b, .int .i64 k, .int .i64 z, .slice A1 n1 c1, .slice A2 n2 c2]) := Lib.hid (by rw [hw1]; exact Blk.fresh _ _ _)
  have HR := Lib.hid (And.intro (r1.below b1) (And.intro (r2.below b1) (hO.below b1)))
  clear r1 r2 hO b1
  by_cases hlt : n1 ≤ 400 ∧ n2 ≤ 400
  · have hd : decide (n1 ≤ 400 ∧ n2 ≤ 400) = true := by simpa using hlt
    rw [hd] at HL
    clear hlt hd
    obtain ⟨n, hn⟩ : ∃ n, n = an % 9 := ⟨_, rfl⟩
    have hn9 : n < 9 := by omega
    have en : ((an : Int) % 9) = (n : Int) := by omega
    clear hn
    go_enter Tryd.func5, Tryd.ntmps5
    go_wp2_with fail
    rw [← hw1]
    clear hw1
    refine (HL w1).out.mono ?_
    rintro e w2 ⟨rfl, b2⟩
    have B2 := Lib.hid b2
    clear b2 HL
    go_wp2_with fail
    refine (Open_any w2).mono ?_
    rintro e w3 ⟨g, rfl, t3, hg, b3⟩
    have T3 := Lib.hid t3
    have HG := Lib.hid hg
    have B3 := Lib.hid (grows B2.out b3)
    have S3 := Lib.hid b3.size
    clear t3 hg b3
    go_wp2_with fail
    rw [en]
    have HON := Lib.hid (ones n hn9)
    refine ((gone.start T3.out S3.out).put (y := 2 ^ n - 1) (m := n) HON.out rfl (ones_lt n hn9) (by omega) (by simp [bl])).mono ?_
    rintro e w4 ⟨rfl, v4, g4⟩
    have S1 : Hid (w1.heap.size ≤ g) := Lib.hid (by have := HG.out; have := B2.out.size; omega)
    have O4 := Lib.hid g4.o
    have B4 : Hid (Below w1.heap.size w1 w4) := Lib.hid (g4.o.below B3.out B3.out.size (fun i hi => by
      rcases hi with e | e
      · rw [e]; exact S1.out
      · simp [Value.ownBlock] at e))
    obtain ⟨bs4, t4, e4⟩ := g4.t
    have hz4 : num [] + bn ([] ++ [(2 ^ n - 1, n)]) * 2 ^ 0 = 2 ^ n - 1 := by simp [num, bn]
    have hy4 : 0 + bl ([] ++ [(2 ^ n - 1, n)]) = n := by simp [bl]
    rw [hz4] at e4
    rw [hy4] at t4
    have T4 := Lib.hid t4
    have E4 := Lib.hid e4
    have L4 : Hid (∀ i, own g v4 i → w1.heap.size ≤ i) := Lib.hid (fun i hi => by
      rcases hi with e | e
      · rw [e]; exact S1.out
      · rcases own_of (g := g) g4.a i e with h | h
        · rcases h with h | h
          · rw [h]; exact S1.out
          · simp [Value.ownBlock] at h
        · exact Nat.le_trans B3.out.size h)
    have HX4 : Hid (Blk w4 w.heap.size 36 #[.bool b, .int .i64 k, .int .i64 z, .slice A1 n1 c1, .slice A2 n2 c2]) := Lib.hid (HX1.out.below B4.out)
    have S4 : Hid (w2.heap.size ≤ w4.heap.size) := Lib.hid (Nat.le_trans S3.out g4.o.size)
    clear g4 t4 e4 hz4 hy4 T3 O4
    go_wp2_with (refine wpList_load_row rfl 36 _ rfl w.heap.size rfl _ _ _ _ HX4.out Tryd.underlying36 rfl sizeR ?_)
    refine (given_any b k z A1 n1 c1 A2 n2 c2 w4).mono ?_
    rintro e w5 ⟨rfl, b5⟩
    have B5 : Hid (Below w1.heap.size w1 w5) := Lib.hid (grows B4.out b5)
    have T5 := Lib.hid (wt_below T4.out b5)
    have S5 := Lib.hid (Nat.le_trans S4.out b5.size)
    have HR5 : Hid (∀ x, Only (own g v4) w5 x → row x A1 n1 f1 ∧ row x A2 n2 f2 ∧ ordM x) := Lib.hid (fun x o => by
      have h := past B5.out L4.out o
      exact ⟨HR.out.1.below h, HR.out.2.1.below h, HR.out.2.2.below h⟩)
    have HW := Lib.hid (Write_any (b := b) (k := k) (z := z) (c1 := c1) (c2 := c2) T5 S5.out (by omega) l1 l2 HR5)
    clear b5 T4 HX4 HR5
    obtain ⟨er, her⟩ : ∃ er, er = wrM k z n1 f1 n2 f2 := ⟨_, rfl⟩
    rw [← her] at HW
    have HER := Lib.hid her
    clear her
    go_wp2_with fail
    refine HW.out.mono ?_
    rintro e w6 ⟨rfl, v6, g6⟩
    have B6 : Hid (Below w1.heap.size w1 w6) := Lib.hid (past B5.out L4.out g6.o)
    obtain ⟨bs6, t6, e6⟩ := g6.t
    have HX6 := Lib.hid (HX1.out.below B6.out)
    clear g6 T5 HW
    by_cases he : er = 0
    · have e0 : wrO b k z n1 f1 n2 f2 n = outM ⟨b, k.toNat, z.toNat, L n1 f1, L n2 f2⟩ n := by unfold wrO; rw [if_pos (HER.out.symm.trans he)]
      rw [e0] at t6 e6
      obtain ⟨ok, k0, k2, hsz, hdy⟩ := wr_ok (kind := k) (size := z) (n := n1) (f := f1) (m := n2) (g := f2) b (HER.out.symm.trans he)
      have hN : num bs4 < 2 ^ n := by rw [E4.out]; exact ones_lt n hn9
      have hb6 := text_back ok hN e6 t6.len
      obtain ⟨M, hM⟩ : ∃ M, M = n + bl (outM ⟨b, k.toNat, z.toNat, L n1 f1, L n2 f2⟩ n) := ⟨_, rfl⟩
      obtain ⟨hd, hhd⟩ : ∃ hd, hd = back ⟨b, k.toNat, z.toNat, L n1 f1, L n2 f2⟩ := ⟨_, rfl⟩
      rw [← hM] at hb6 t6
      rw [← hhd] at hb6
      have HTX := Lib.hid (Text_any t6)
      obtain ⟨T, hT⟩ : ∃ T : ByteArray, T = ⟨bs6.toArray⟩ := ⟨_, rfl⟩
      have hTl : T.data.toList = bs6 := by rw [hT]
      have hTs : T.size = T.data.toList.length := by rw [hTl, hT]; rfl
      rw [← hTl, ← hTs] at hb6
      rw [← hT] at HTX
      have hlen : T.size = (M + 7) / 8 := by rw [hTs, hTl]; exact t6.len
      have hMb : M ≤ 2000 := by have := outM_le ok n; omega
      have hT8 : n ≤ 8 * T.size := by omega
      have hT48 : T.size ≤ 281474976710656 := by omega
      have HHB := Lib.hid hb6
      have HHD := Lib.hid hhd
      have W6 := Lib.hid t6.b
      have HSZ := Lib.hid hsz
      have HDY := Lib.hid hdy
      subst he
      clear e0 t6 e6 ok hb6 hM hhd hT hTl hTs hlen hMb hsz hdy
      go_wp2_with fail
      refine HTX.out.mono ?_
      rintro e w' ⟨rfl, hw⟩
      rw [← hw]
      clear hw
      go_wp2_with fail
      refine (New_ok T n w6 hT48 hT8).mono ?_
      rintro e w7 ⟨r, rfl, r7, hr, b7⟩
      have R7 := Lib.hid r7
      have HRG := Lib.hid hr
      have B7 := Lib.hid b7
      have O7 := Lib.hid (HR.out.2.2.below (grows B6.out b7))
      clear r7 hr b7 HTX
      go_wp2_with fail
      refine (Read_all R7.out O7.out hT48 hT8).mono ?_
      rintro e w8 ⟨b', k', z', X1, m1, d1, X2, m2, d2, rfl, i8, r8, o8⟩
      rw [HHB.out] at i8 r8
      obtain ⟨hb, hkk, hz, hm1, hm2, x1, x2⟩ := isH.parts i8
      have h0 : (headM (num T.data.toList) (8 * T.size) n).1 = 0 := by rw [HHB.out]
      rw [h0]
      have B68 : Hid (Below w6.heap.size w6 w8) := Lib.hid (o8.below B7.out B7.out.size (fun i hi => by have : i = r := hi; have := HRG.out; omega))
      have R8 := Lib.hid r8
      have I8 := Lib.hid (And.intro x1 x2)
      have HM1 := Lib.hid hm1
      have HM2 := Lib.hid hm2
      have hlenb := head_len (num T.data.toList) (8 * T.size) n
      rw [HHB.out] at hlenb
      have hm1' : m1 ≤ 9223372036854775807 := by rw [hm1]; exact Nat.le_trans hlenb.1 (by omega)
      have hm2' : m2 ≤ 9223372036854775807 := by rw [hm2]; exact Nat.le_trans hlenb.2 (by omega)
      have B18 : Hid (Below w1.heap.size w1 w8) := Lib.hid (grows B6.out B68.out)
      have B08 : Hid (Below w.heap.size w w8) := Lib.hid (grows HB1.out B18.out)
      have HX8 := Lib.hid (HX1.out.below B18.out)
      have W8 := Lib.hid (Blk.below W6.out B68.out)
      have HK := Lib.hid hkk
      have HZ := Lib.hid hz
      have HBb := Lib.hid hb
      have HK2 : Hid (0 ≤ k ∧ k ≤ 2) := Lib.hid ⟨k0, k2⟩
      clear i8 r8 o8 x1 x2 hb hkk hz h0 hm1 hm2 hlenb HHB R7 B7 O7 k0 k2
      rcases (show k = 0 ∨ k = 1 ∨ k = 2 by have := HK2.out; omega) with hk | hk | hk
      · subst hk
        have e2 : k' = 0 := by rw [HK.out, HHD.out]; rfl
        have e3 : z' = z := by rw [HZ.out, HHD.out]; have := (HSZ.out (by simp)).1; show ((z.toNat : Nat) : Int) = z; omega
        have e1 : b' = b := by rw [HBb.out, HHD.out]; rfl
        have f1' : m1 = 0 := by rw [HM1.out, HHD.out]; rfl
        have f2' : m2 = 0 := by rw [HM2.out, HHD.out]; rfl
        subst e1; subst e2; subst e3; subst f1'; subst f2'
        have k9 := Blk.fresh w8 33 #[.bool b', .int .i64 0, .int .i64 z', .slice X1 0 d1, .slice X2 0 d2]
        have b9 := below_alloc w8 (.cells #[.bool b', .int .i64 0, .int .i64 z', .slice X1 0 d1, .slice X2 0 d2] 33)
        have z9 := size_alloc w8 (.cells #[.bool b', .int .i64 0, .int .i64 z', .slice X1 0 d1, .slice X2 0 d2] 33)
        have HX9 := Lib.hid (HX8.out.below b9)
        have q0 := HX9.out.cell 0
        have q1 := HX9.out.cell 1
        have k10 := Blk.fresh (w8.alloc (.cells #[.bool b', .int .i64 0, .int .i64 z', .slice X1 0 d1, .slice X2 0 d2] 33)) 36 #[.bool b', .int .i64 0, .int .i64 0, .slice none 0 0, .slice none 0 0]
        have b10 := below_alloc (w8.alloc (.cells #[.bool b', .int .i64 0, .int .i64 z', .slice X1 0 d1, .slice X2 0 d2] 33)) (.cells #[.bool b', .int .i64 0, .int .i64 0, .slice none 0 0, .slice none 0 0] 36)
        have HX10 := Lib.hid (HX9.out.below b10)
        have p1 := HX10.out.cell 1
        have p2 := HX10.out.cell 2
        have p3 := HX10.out.cell 3
        have p4 := HX10.out.cell 4
        rw [z9] at k10
        have K9 := Lib.hid k9
        have K10 := Lib.hid k10
        have B9 := Lib.hid b9
        have B10 := Lib.hid b10
        have Z9 := Lib.hid z9
        clear k9 b9 z9 k10 b10
        go_wp2_with fail
        have b11 := below_alloc (w8.alloc (.cells #[.bool b', .int .i64 0, .int .i64 z', .slice X1 0 d1, .slice X2 0 d2] 33)) (.cells #[.bool b', .int .i64 0, .int .i64 z', .slice none 0 0, .slice none 0 0] 36)
        have k11 := Blk.fresh (w8.alloc (.cells #[.bool b', .int .i64 0, .int .i64 z', .slice X1 0 d1, .slice X2 0 d2] 33)) 36 #[.bool b', .int .i64 0, .int .i64 z', .slice none 0 0, .slice none 0 0]
        have KXV := Lib.hid (K9.out.below b11)
        obtain ⟨V, hV⟩ : ∃ V, V = (w8.alloc (.cells #[.bool b', .int .i64 0, .int .i64 z', .slice X1 0 d1, .slice X2 0 d2] 33)).alloc (.cells #[.bool b', .int .i64 0, .int .i64 z', .slice none 0 0, .slice none 0 0] 36) := ⟨_, rfl⟩
        rw [Z9.out] at k11
        rw [← hV] at b11 k11 KXV ⊢
        have KYV := Lib.hid k11
        have B8V := Lib.hid (grows B9.out b11)
        clear hV b11 k11 q0 q1 p1 p2 p3 p4 K9 K10 HX9 HX10 B9 B10 Z9
        have BV := Lib.hid (grows B08.out B8V.out)
        have RV := Lib.hid (R8.out.below B8V.out)
        have WV := Lib.hid (Blk.below W8.out B8V.out)
        have RX : Hid (row V X1 0 (fun _ => 0) ∧ row V X2 0 (fun _ => 0)) := Lib.hid ⟨row_none _ _ _, row_none _ _ _⟩
        have RY : Hid (row V none 0 (fun _ => 0) ∧ row V none 0 (fun _ => 0)) := Lib.hid ⟨row_none _ _ _, row_none _ _ _⟩
        have HS : Hid (∀ u, Below V.heap.size V u → Calls Tryd.prog 14 #[hv b' (0) (z') (.slice X1 0 d1) (.slice X2 0 d2), hv b' (0) (z') (.slice none 0 0) (.slice none 0 0)] u fun e w' => e = .returned (.bool true) ∧ Below u.heap.size u w') := Lib.hid (fun u hu =>
          Same_any hm1' hm2' (Lib.hid (RX.out.1.below hu)) (Lib.hid (RX.out.2.below hu)) (Lib.hid (RY.out.1.below hu)) (Lib.hid (RY.out.2.below hu)))
        have HA : Hid (∀ u, Below V.heap.size V u → Calls Tryd.prog 16 #[.pointer (some ⟨r, 0, none⟩)] u fun e w' => e = .returned (.int .i64 (M : Int)) ∧ w' = u) := Lib.hid (fun u hu => At_any (RV.out.below hu))
        have HN : Hid (∀ u, Below V.heap.size V u → Calls Tryd.prog 24 #[.pointer (some ⟨g, 0, none⟩)] u fun e w' => e = .returned (.int .i64 (M : Int)) ∧ u = w') := Lib.hid (fun u hu => Len_any (Blk.below WV.out hu))
        have c0 := KXV.out.cell 0
        have c1' := KXV.out.cell 1
        have c2' := KXV.out.cell 2
        have c3 := KXV.out.cell 3
        have c4 := KXV.out.cell 4
        have y0 := KYV.out.cell 0
        have y1 := KYV.out.cell 1
        have y2 := KYV.out.cell 2
        have y3 := KYV.out.cell 3
        have y4 := KYV.out.cell 4
        have hXV := KXV.out.lt
        have hYV := KYV.out.lt
        have keeps : ∀ u u' : World, (u.cell? ⟨w8.heap.size, 0, none⟩ = some (.bool b') ∧ u.cell? ⟨w8.heap.size, 1, none⟩ = some (.int .i64 0) ∧ u.cell? ⟨w8.heap.size, 2, none⟩ = some (.int .i64 z') ∧ u.cell? ⟨w8.heap.size, 3, none⟩ = some (.slice X1 0 d1) ∧ u.cell? ⟨w8.heap.size, 4, none⟩ = some (.slice X2 0 d2) ∧ u.cell? ⟨w8.heap.size + 1, 0, none⟩ = some (.bool b') ∧ u.cell? ⟨w8.heap.size + 1, 1, none⟩ = some (.int .i64 0) ∧ u.cell? ⟨w8.heap.size + 1, 2, none⟩ = some (.int .i64 z') ∧ u.cell? ⟨w8.heap.size + 1, 3, none⟩ = some (.slice none 0 0) ∧ u.cell? ⟨w8.heap.size + 1, 4, none⟩ = some (.slice none 0 0) ∧ Below V.heap.size V u) → Below u.heap.size u u' → (u'.cell? ⟨w8.heap.size, 0, none⟩ = some (.bool b') ∧ u'.cell? ⟨w8.heap.size, 1, none⟩ = some (.int .i64 0) ∧ u'.cell? ⟨w8.heap.size, 2, none⟩ = some (.int .i64 z') ∧ u'.cell? ⟨w8.heap.size, 3, none⟩ = some (.slice X1 0 d1) ∧ u'.cell? ⟨w8.heap.size, 4, none⟩ = some (.slice X2 0 d2) ∧ u'.cell? ⟨w8.heap.size + 1, 0, none⟩ = some (.bool b') ∧ u'.cell? ⟨w8.heap.size + 1, 1, none⟩ = some (.int .i64 0) ∧ u'.cell? ⟨w8.heap.size + 1, 2, none⟩ = some (.int .i64 z') ∧ u'.cell? ⟨w8.heap.size + 1, 3, none⟩ = some (.slice none 0 0) ∧ u'.cell? ⟨w8.heap.size + 1, 4, none⟩ = some (.slice none 0 0) ∧ Below V.heap.size V u') := fun u u' h hb => by
          have hs := h.2.2.2.2.2.2.2.2.2.2.size
          obtain ⟨a0, a1, a2, a3, a4, a5, a6, a7, a8, a9, a10⟩ := h
          exact ⟨(hb.cell (p := ⟨w8.heap.size, 0, none⟩) (by show w8.heap.size < _; omega)).trans a0, (hb.cell (p := ⟨w8.heap.size, 1, none⟩) (by show w8.heap.size < _; omega)).trans a1, (hb.cell (p := ⟨w8.heap.size, 2, none⟩) (by show w8.heap.size < _; omega)).trans a2, (hb.cell (p := ⟨w8.heap.size, 3, none⟩) (by show w8.heap.size < _; omega)).trans a3, (hb.cell (p := ⟨w8.heap.size, 4, none⟩) (by show w8.heap.size < _; omega)).trans a4,
            (hb.cell (p := ⟨w8.heap.size + 1, 0, none⟩) (by show w8.heap.size + 1 < _; omega)).trans a5, (hb.cell (p := ⟨w8.heap.size + 1, 1, none⟩) (by show w8.heap.size + 1 < _; omega)).trans a6, (hb.cell (p := ⟨w8.heap.size + 1, 2, none⟩) (by show w8.heap.size + 1 < _; omega)).trans a7, (hb.cell (p := ⟨w8.heap.size + 1, 3, none⟩) (by show w8.heap.size + 1 < _; omega)).trans a8, (hb.cell (p := ⟨w8.heap.size + 1, 4, none⟩) (by show w8.heap.size + 1 < _; omega)).trans a9, grows a10 hb⟩
        clear hXV hYV KXV KYV RX RY RV WV hm1' hm2'
        go_region_held3 (fun u => u.cell? ⟨w8.heap.size, 0, none⟩ = some (.bool b') ∧ u.cell? ⟨w8.heap.size, 1, none⟩ = some (.int .i64 0) ∧ u.cell? ⟨w8.heap.size, 2, none⟩ = some (.int .i64 z') ∧ u.cell? ⟨w8.heap.size, 3, none⟩ = some (.slice X1 0 d1) ∧ u.cell? ⟨w8.heap.size, 4, none⟩ = some (.slice X2 0 d2) ∧ u.cell? ⟨w8.heap.size + 1, 0, none⟩ = some (.bool b') ∧ u.cell? ⟨w8.heap.size + 1, 1, none⟩ = some (.int .i64 0) ∧ u.cell? ⟨w8.heap.size + 1, 2, none⟩ = some (.int .i64 z') ∧ u.cell? ⟨w8.heap.size + 1, 3, none⟩ = some (.slice none 0 0) ∧ u.cell? ⟨w8.heap.size + 1, 4, none⟩ = some (.slice none 0 0) ∧ Below V.heap.size V u)
          (first | exact ⟨c0, c1', c2', c3, c4, y0, y1, y2, y3, y4, below_drew (Below.refl _ _)⟩ | assumption | (apply keeps; assumption; assumption))
          (first | (go_at_call 15; refine (taken_any _ _ _ _ _ _ _ _ _ _).mono ?_; rintro e u1 ⟨rfl, hu1⟩) | (go_at_call 14; refine (HS.out _ (show _ ∧ _ ∧ _ ∧ _ ∧ _ ∧ _ ∧ _ ∧ _ ∧ _ ∧ _ ∧ Below _ V _ by assumption).2.2.2.2.2.2.2.2.2.2).mono ?_; rintro e u1 ⟨rfl, hu1⟩) | (go_at_call 16; refine (HA.out _ (show _ ∧ _ ∧ _ ∧ _ ∧ _ ∧ _ ∧ _ ∧ _ ∧ _ ∧ _ ∧ Below _ V _ by assumption).2.2.2.2.2.2.2.2.2.2).mono ?_; rintro e u1 ⟨rfl, rfl⟩) | (go_at_call 24; refine (HN.out _ (show _ ∧ _ ∧ _ ∧ _ ∧ _ ∧ _ ∧ _ ∧ _ ∧ _ ∧ _ ∧ Below _ V _ by assumption).2.2.2.2.2.2.2.2.2.2).mono ?_; rintro e u1 ⟨rfl, rfl⟩) | (go_at_call 8; refine (known_any _).mono ?_; rintro e u1 ⟨rfl, hu1⟩))
        have hB := (show _ ∧ _ ∧ _ ∧ _ ∧ _ ∧ _ ∧ _ ∧ _ ∧ _ ∧ _ ∧ Below _ V _ by assumption).2.2.2.2.2.2.2.2.2.2
        go_wp2
        go_ret
        exact ⟨rfl, grows BV.out hB⟩
      · subst hk
        have e2 : k' = 1 := by rw [HK.out, HHD.out]; rfl
        have e3 : z' = 0 := by rw [HZ.out, HHD.out]; rfl
        have e1 : b' = b := by rw [HBb.out, HHD.out]; rfl
        have g1 : hd.lits = fixL := by rw [HHD.out]; rfl
        have g2 : hd.dists = fixD := by rw [HHD.out]; rfl
        have f1' : m1 = 288 := by rw [HM1.out]; show hd.lits.length = 288; rw [g1, fixL_length]
        have f2' : m2 = 32 := by rw [HM2.out]; show hd.dists.length = 32; rw [g2, fixD_length]
        have I8' : Hid (row w8 X1 m1 (ix fixL) ∧ row w8 X2 m2 (ix fixD)) := Lib.hid (by rw [← g1, ← g2]; exact I8.out)
        subst e1; subst e2; subst e3; subst f1'; subst f2'
        clear g1 g2
        have k9 := Blk.fresh w8 33 #[.bool b', .int .i64 1, .int .i64 0, .slice X1 288 d1, .slice X2 32 d2]
        have b9 := below_alloc w8 (.cells #[.bool b', .int .i64 1, .int .i64 0, .slice X1 288 d1, .slice X2 32 d2] 33)
        have z9 := size_alloc w8 (.cells #[.bool b', .int .i64 1, .int .i64 0, .slice X1 288 d1, .slice X2 32 d2] 33)
        have HX9 := Lib.hid (HX8.out.below b9)
        have q0 := HX9.out.cell 0
        have q1 := HX9.out.cell 1
        have k10 := Blk.fresh (w8.alloc (.cells #[.bool b', .int .i64 1, .int .i64 0, .slice X1 288 d1, .slice X2 32 d2] 33)) 36 #[.bool b', .int .i64 1, .int .i64 0, .slice none 0 0, .slice none 0 0]
        have b10 := below_alloc (w8.alloc (.cells #[.bool b', .int .i64 1, .int .i64 0, .slice X1 288 d1, .slice X2 32 d2] 33)) (.cells #[.bool b', .int .i64 1, .int .i64 0, .slice none 0 0, .slice none 0 0] 36)
        have HX10 := Lib.hid (HX9.out.below b10)
        have p1 := HX10.out.cell 1
        have p2 := HX10.out.cell 2
        have p3 := HX10.out.cell 3
        have p4 := HX10.out.cell 4
        rw [z9] at k10
        have K9 := Lib.hid k9
        have K10 := Lib.hid k10
        have B9 := Lib.hid b9
        have B10 := Lib.hid b10
        have Z9 := Lib.hid z9
        clear k9 b9 z9 k10 b10
        obtain ⟨W10, hW10⟩ : ∃ W, W = (w8.alloc (.cells #[.bool b', .int .i64 1, .int .i64 0, .slice X1 288 d1, .slice X2 32 d2] 33)).alloc (.cells #[.bool b', .int .i64 1, .int .i64 0, .slice none 0 0, .slice none 0 0] 36) := ⟨_, rfl⟩
        go_wp2_with fail
        rw [← hW10] at K10 B10 ⊢
        have KX10 : Hid (Blk W10 w8.heap.size 33 #[.bool b', .int .i64 1, .int .i64 0, .slice X1 288 d1, .slice X2 32 d2]) := Lib.hid (by rw [hW10]; exact K9.out.below (below_alloc _ _))
        have B8W := Lib.hid (grows B9.out B10.out)
        clear q0 q1 p1 p2 p3 p4 K9 HX9 HX10 B9 B10 Z9 hW10
        refine (rFixedLits_any W10).mono ?_
        rintro e w11 ⟨v11, rfl, k11, b11⟩
        obtain ⟨Y1, e1, hv11, r11⟩ := ints_row k11
        rw [fixL_length] at hv11 r11
        subst hv11
        have y11 := K10.out.below b11
        have f3 := y11.frozen 3
        have t3 := y11.cell 3
        have K11 := Lib.hid (y11.store 3 (.slice Y1 288 e1))
        have KX11 := Lib.hid ((KX10.out.below b11).apartStore (p := ⟨w8.heap.size + 1, 3, none⟩) (u := .slice Y1 288 e1) (by show w8.heap.size ≠ w8.heap.size + 1; omega))
        have b11' := Lib.hid b11
        have o11 : Only (fun i => i = w8.heap.size + 1) w11 (w11.setCell ⟨w8.heap.size + 1, 3, none⟩ (.slice Y1 288 e1)) := (Only.refl (fun i => i = w8.heap.size + 1) w11).store (p := ⟨w8.heap.size + 1, 3, none⟩) (.inl rfl) _
        have LO1 : Hid (∀ i, (Value.slice Y1 288 e1).ownBlock = some i → i ≠ w8.heap.size + 1) := Lib.hid (fun i hi e => by
          have := (k11.lo i hi).1
          have hl := K10.out.lt
          omega)
        have I11 := Lib.hid (ints.only k11 o11 LO1.out)
        have O11 := Lib.hid ((Only.of_below (S := fun i => i = w8.heap.size + 1) b11).trans o11)
        clear k11 r11 b11 y11 o11
        go_wp2_with fail
        obtain ⟨W11, hW11⟩ : ∃ W, W = w11.setCell ⟨w8.heap.size + 1, 3, none⟩ (.slice Y1 288 e1) := ⟨_, rfl⟩
        rw [← hW11] at K11 KX11 O11 I11 ⊢
        clear hW11 f3 t3
        refine (rFixedDists_any W11).mono ?_
        rintro e w12 ⟨v12, rfl, k12, b12⟩
        obtain ⟨Y2, e2, hv12, r12⟩ := ints_row k12
        rw [fixD_length] at hv12 r12
        subst hv12
        have y12 := K11.out.below b12
        have f4 := y12.frozen 4
        have t4 := y12.cell 4
        have s12 := y12.store 4 (.slice Y2 32 e2)
        have x12 := (KX11.out.below b12).apartStore (p := ⟨w8.heap.size + 1, 4, none⟩) (u := .slice Y2 32 e2) (by show w8.heap.size ≠ w8.heap.size + 1; omega)
        have o12 : Only (fun i => i = w8.heap.size + 1) w12 (w12.setCell ⟨w8.heap.size + 1, 4, none⟩ (.slice Y2 32 e2)) := (Only.refl (fun i => i = w8.heap.size + 1) w12).store (p := ⟨w8.heap.size + 1, 4, none⟩) (.inl rfl) _
        have R1 : Hid (row (w12.setCell ⟨w8.heap.size + 1, 4, none⟩ (.slice Y2 32 e2)) Y1 288 (ix fixL)) := Lib.hid (by
          have h := ints.only (I11.out.below b12) o12 LO1.out
          obtain ⟨A, c, e, r⟩ := ints_row h
          injection e with e _ _
          subst e
          rw [fixL_length] at r
          exact r)
        have R2 : Hid (row (w12.setCell ⟨w8.heap.size + 1, 4, none⟩ (.slice Y2 32 e2)) Y2 32 (ix fixD)) := Lib.hid (by
          have h := ints.only k12 o12 (fun i hi e => by
            have := (k12.lo i hi).1
            have hl := K11.out.lt
            omega)
          obtain ⟨A, c, e, r⟩ := ints_row h
          injection e with e _ _
          subst e
          rw [fixD_length] at r
          exact r)
        have lV := Nat.le_of_lt K10.out.lt
        have S12 := Lib.hid s12
        have X12 := Lib.hid x12
        have O12 := Lib.hid ((O11.out.trans (Only.of_below b12)).trans o12)
        clear k12 r12 y12 s12 x12 o12 lV
        go_wp2_with fail
        obtain ⟨V, hV⟩ : ∃ V, V = w12.setCell ⟨w8.heap.size + 1, 4, none⟩ (.slice Y2 32 e2) := ⟨_, rfl⟩
        rw [← hV] at S12 X12 O12 R1 R2 ⊢
        have B8V : Hid (Below w8.heap.size w8 V) := Lib.hid (O12.out.below B8W.out B8W.out.size (fun i hi => by have : i = w8.heap.size + 1 := hi; omega))
        have KXV := X12
        have KYV := S12
        clear hV f4 t4 K10 K11 KX10 KX11 I11 O11 O12 LO1 b12 b11' X12 S12
        have BV := Lib.hid (grows B08.out B8V.out)
        have RV := Lib.hid (R8.out.below B8V.out)
        have WV := Lib.hid (Blk.below W8.out B8V.out)
        have RX := Lib.hid (And.intro (I8'.out.1.below B8V.out) (I8'.out.2.below B8V.out))
        have RY := Lib.hid (And.intro R1.out R2.out)
        have HS : Hid (∀ u, Below V.heap.size V u → Calls Tryd.prog 14 #[hv b' (1) (0) (.slice X1 288 d1) (.slice X2 32 d2), hv b' (1) (0) (.slice Y1 288 e1) (.slice Y2 32 e2)] u fun e w' => e = .returned (.bool true) ∧ Below u.heap.size u w') := Lib.hid (fun u hu =>
          Same_any hm1' hm2' (Lib.hid (RX.out.1.below hu)) (Lib.hid (RX.out.2.below hu)) (Lib.hid (RY.out.1.below hu)) (Lib.hid (RY.out.2.below hu)))
        have HA : Hid (∀ u, Below V.heap.size V u → Calls Tryd.prog 16 #[.pointer (some ⟨r, 0, none⟩)] u fun e w' => e = .returned (.int .i64 (M : Int)) ∧ w' = u) := Lib.hid (fun u hu => At_any (RV.out.below hu))
        have HN : Hid (∀ u, Below V.heap.size V u → Calls Tryd.prog 24 #[.pointer (some ⟨g, 0, none⟩)] u fun e w' => e = .returned (.int .i64 (M : Int)) ∧ u = w') := Lib.hid (fun u hu => Len_any (Blk.below WV.out hu))
        have c0 := KXV.out.cell 0
        have c1' := KXV.out.cell 1
        have c2' := KXV.out.cell 2
        have c3 := KXV.out.cell 3
        have c4 := KXV.out.cell 4
        have y0 := KYV.out.cell 0
        have y1 := KYV.out.cell 1
        have y2 := KYV.out.cell 2
        have y3 := KYV.out.cell 3
        have y4 := KYV.out.cell 4
        have hXV := KXV.out.lt
        have hYV := KYV.out.lt
        have keeps : ∀ u u' : World, (u.cell? ⟨w8.heap.size, 0, none⟩ = some (.bool b') ∧ u.cell? ⟨w8.heap.size, 1, none⟩ = some (.int .i64 1) ∧ u.cell? ⟨w8.heap.size, 2, none⟩ = some (.int .i64 0) ∧ u.cell? ⟨w8.heap.size, 3, none⟩ = some (.slice X1 288 d1) ∧ u.cell? ⟨w8.heap.size, 4, none⟩ = some (.slice X2 32 d2) ∧ u.cell? ⟨w8.heap.size + 1, 0, none⟩ = some (.bool b') ∧ u.cell? ⟨w8.heap.size + 1, 1, none⟩ = some (.int .i64 1) ∧ u.cell? ⟨w8.heap.size + 1, 2, none⟩ = some (.int .i64 0) ∧ u.cell? ⟨w8.heap.size + 1, 3, none⟩ = some (.slice Y1 288 e1) ∧ u.cell? ⟨w8.heap.size + 1, 4, none⟩ = some (.slice Y2 32 e2) ∧ Below V.heap.size V u) → Below u.heap.size u u' → (u'.cell? ⟨w8.heap.size, 0, none⟩ = some (.bool b') ∧ u'.cell? ⟨w8.heap.size, 1, none⟩ = some (.int .i64 1) ∧ u'.cell? ⟨w8.heap.size, 2, none⟩ = some (.int .i64 0) ∧ u'.cell? ⟨w8.heap.size, 3, none⟩ = some (.slice X1 288 d1) ∧ u'.cell? ⟨w8.heap.size, 4, none⟩ = some (.slice X2 32 d2) ∧ u'.cell? ⟨w8.heap.size + 1, 0, none⟩ = some (.bool b') ∧ u'.cell? ⟨w8.heap.size + 1, 1, none⟩ = some (.int .i64 1) ∧ u'.cell? ⟨w8.heap.size + 1, 2, none⟩ = some (.int .i64 0) ∧ u'.cell? ⟨w8.heap.size + 1, 3, none⟩ = some (.slice Y1 288 e1) ∧ u'.cell? ⟨w8.heap.size + 1, 4, none⟩ = some (.slice Y2 32 e2) ∧ Below V.heap.size V u') := fun u u' h hb => by
          have hs := h.2.2.2.2.2.2.2.2.2.2.size
          obtain ⟨a0, a1, a2, a3, a4, a5, a6, a7, a8, a9, a10⟩ := h
          exact ⟨(hb.cell (p := ⟨w8.heap.size, 0, none⟩) (by show w8.heap.size < _; omega)).trans a0, (hb.cell (p := ⟨w8.heap.size, 1, none⟩) (by show w8.heap.size < _; omega)).trans a1, (hb.cell (p := ⟨w8.heap.size, 2, none⟩) (by show w8.heap.size < _; omega)).trans a2, (hb.cell (p := ⟨w8.heap.size, 3, none⟩) (by show w8.heap.size < _; omega)).trans a3, (hb.cell (p := ⟨w8.heap.size, 4, none⟩) (by show w8.heap.size < _; omega)).trans a4,
            (hb.cell (p := ⟨w8.heap.size + 1, 0, none⟩) (by show w8.heap.size + 1 < _; omega)).trans a5, (hb.cell (p := ⟨w8.heap.size + 1, 1, none⟩) (by show w8.heap.size + 1 < _; omega)).trans a6, (hb.cell (p := ⟨w8.heap.size + 1, 2, none⟩) (by show w8.heap.size + 1 < _; omega)).trans a7, (hb.cell (p := ⟨w8.heap.size + 1, 3, none⟩) (by show w8.heap.size + 1 < _; omega)).trans a8, (hb.cell (p := ⟨w8.heap.size + 1, 4, none⟩) (by show w8.heap.size + 1 < _; omega)).trans a9, grows a10 hb⟩
        clear hXV hYV KXV KYV RX RY RV WV hm1' hm2'
        go_region_held3 (fun u => u.cell? ⟨w8.heap.size, 0, none⟩ = some (.bool b') ∧ u.cell? ⟨w8.heap.size, 1, none⟩ = some (.int .i64 1) ∧ u.cell? ⟨w8.heap.size, 2, none⟩ = some (.int .i64 0) ∧ u.cell? ⟨w8.heap.size, 3, none⟩ = some (.slice X1 288 d1) ∧ u.cell? ⟨w8.heap.size, 4, none⟩ = some (.slice X2 32 d2) ∧ u.cell? ⟨w8.heap.size + 1, 0, none⟩ = some (.bool b') ∧ u.cell? ⟨w8.heap.size + 1, 1, none⟩ = some (.int .i64 1) ∧ u.cell? ⟨w8.heap.size + 1, 2, none⟩ = some (.int .i64 0) ∧ u.cell? ⟨w8.heap.size + 1, 3, none⟩ = some (.slice Y1 288 e1) ∧ u.cell? ⟨w8.heap.size + 1, 4, none⟩ = some (.slice Y2 32 e2) ∧ Below V.heap.size V u)
          (first | exact ⟨c0, c1', c2', c3, c4, y0, y1, y2, y3, y4, below_drew (Below.refl _ _)⟩ | assumption | (apply keeps; assumption; assumption))
          (first | (go_at_call 15; refine (taken_any _ _ _ _ _ _ _ _ _ _).mono ?_; rintro e u1 ⟨rfl, hu1⟩) | (go_at_call 14; refine (HS.out _ (show _ ∧ _ ∧ _ ∧ _ ∧ _ ∧ _ ∧ _ ∧ _ ∧ _ ∧ _ ∧ Below _ V _ by assumption).2.2.2.2.2.2.2.2.2.2).mono ?_; rintro e u1 ⟨rfl, hu1⟩) | (go_at_call 16; refine (HA.out _ (show _ ∧ _ ∧ _ ∧ _ ∧ _ ∧ _ ∧ _ ∧ _ ∧ _ ∧ _ ∧ Below _ V _ by assumption).2.2.2.2.2.2.2.2.2.2).mono ?_; rintro e u1 ⟨rfl, rfl⟩) | (go_at_call 24; refine (HN.out _ (show _ ∧ _ ∧ _ ∧ _ ∧ _ ∧ _ ∧ _ ∧ _ ∧ _ ∧ _ ∧ Below _ V _ by assumption).2.2.2.2.2.2.2.2.2.2).mono ?_; rintro e u1 ⟨rfl, rfl⟩) | (go_at_call 8; refine (known_any _).mono ?_; rintro e u1 ⟨rfl, hu1⟩))
        have hB := (show _ ∧ _ ∧ _ ∧ _ ∧ _ ∧ _ ∧ _ ∧ _ ∧ _ ∧ _ ∧ Below _ V _ by assumption).2.2.2.2.2.2.2.2.2.2
        go_wp2
        go_ret
        exact ⟨rfl, grows BV.out hB⟩
      · subst hk
        have e2 : k' = 2 := by rw [HK.out, HHD.out]; rfl
        have e3 : z' = 0 := by rw [HZ.out, HHD.out]; rfl
        have e1 : b' = b := by rw [HBb.out, HHD.out]; rfl
        have g1 : hd.lits = L n1 f1 := by rw [HHD.out]; rfl
        have g2 : hd.dists = L n2 f2 := by rw [HHD.out]; rfl
        have f1' : m1 = n1 := by rw [HM1.out]; show hd.lits.length = n1; rw [g1, L_length]
        have f2' : m2 = n2 := by rw [HM2.out]; show hd.dists.length = n2; rw [g2, L_length]
        have I8' : Hid (row w8 X1 m1 (ix (L n1 f1)) ∧ row w8 X2 m2 (ix (L n2 f2))) := Lib.hid (by rw [← g1, ← g2]; exact I8.out)
        obtain ⟨d1', d2', _⟩ := HDY.out (by simp)
        have D1 := Lib.hid d1'
        have D2 := Lib.hid d2'
        subst e1; subst e2; subst e3; subst f1'; subst f2'
        clear g1 g2 d1' d2'
        have k9 := Blk.fresh w8 33 #[.bool b', .int .i64 2, .int .i64 0, .slice X1 m1 d1, .slice X2 m2 d2]
        have b9 := below_alloc w8 (.cells #[.bool b', .int .i64 2, .int .i64 0, .slice X1 m1 d1, .slice X2 m2 d2] 33)
        have z9 := size_alloc w8 (.cells #[.bool b', .int .i64 2, .int .i64 0, .slice X1 m1 d1, .slice X2 m2 d2] 33)
        have HX9 := Lib.hid (HX8.out.below b9)
        have q0 := HX9.out.cell 0
        have q1 := HX9.out.cell 1
        have k10 := Blk.fresh (w8.alloc (.cells #[.bool b', .int .i64 2, .int .i64 0, .slice X1 m1 d1, .slice X2 m2 d2] 33)) 36 #[.bool b', .int .i64 2, .int .i64 0, .slice none 0 0, .slice none 0 0]
        have b10 := below_alloc (w8.alloc (.cells #[.bool b', .int .i64 2, .int .i64 0, .slice X1 m1 d1, .slice X2 m2 d2] 33)) (.cells #[.bool b', .int .i64 2, .int .i64 0, .slice none 0 0, .slice none 0 0] 36)
        have HX10 := Lib.hid (HX9.out.below b10)
        have p1 := HX10.out.cell 1
        have p2 := HX10.out.cell 2
        have p3 := HX10.out.cell 3
        have p4 := HX10.out.cell 4
        rw [z9] at k10
        have K9 := Lib.hid k9
        have K10 := Lib.hid k10
        have B9 := Lib.hid b9
        have B10 := Lib.hid b10
        have Z9 := Lib.hid z9
        clear k9 b9 z9 k10 b10
        have p4b := (HX9.out.below (below_alloc (w8.alloc (.cells #[.bool b', .int .i64 2, .int .i64 0, .slice X1 m1 d1, .slice X2 m2 d2] 33)) (.cells #[.bool b', .int .i64 2, .int .i64 0, .slice A1 m1 c1, .slice none 0 0] 36))).cell 4
        go_wp2_with fail
        have b11 := below_alloc (w8.alloc (.cells #[.bool b', .int .i64 2, .int .i64 0, .slice X1 m1 d1, .slice X2 m2 d2] 33)) (.cells #[.bool b', .int .i64 2, .int .i64 0, .slice A1 m1 c1, .slice A2 m2 c2] 36)
        have k11 := Blk.fresh (w8.alloc (.cells #[.bool b', .int .i64 2, .int .i64 0, .slice X1 m1 d1, .slice X2 m2 d2] 33)) 36 #[.bool b', .int .i64 2, .int .i64 0, .slice A1 m1 c1, .slice A2 m2 c2]
        have KXV := Lib.hid (K9.out.below b11)
        obtain ⟨V, hV⟩ : ∃ V, V = (w8.alloc (.cells #[.bool b', .int .i64 2, .int .i64 0, .slice X1 m1 d1, .slice X2 m2 d2] 33)).alloc (.cells #[.bool b', .int .i64 2, .int .i64 0, .slice A1 m1 c1, .slice A2 m2 c2] 36) := ⟨_, rfl⟩
        rw [Z9.out] at k11
        rw [← hV] at b11 k11 KXV ⊢
        have KYV := Lib.hid k11
        have B8V := Lib.hid (grows B9.out b11)
        clear hV b11 k11 q0 q1 p4b p1 p2 p3 p4 K9 K10 HX9 HX10 B9 B10 Z9
        have BV := Lib.hid (grows B08.out B8V.out)
        have RV := Lib.hid (R8.out.below B8V.out)
        have WV := Lib.hid (Blk.below W8.out B8V.out)
        have RX := Lib.hid (And.intro (I8'.out.1.below B8V.out) (I8'.out.2.below B8V.out))
        have RY : Hid (row V A1 m1 (ix (L m1 f1)) ∧ row V A2 m2 (ix (L m2 f2))) := Lib.hid (by
          have hb := grows B18.out B8V.out
          exact ⟨(HR.out.1.below hb).congr (fun i hi => (L_eq D1.out hi)), (HR.out.2.1.below hb).congr (fun i hi => (L_eq D2.out hi))⟩)
        have HS : Hid (∀ u, Below V.heap.size V u → Calls Tryd.prog 14 #[hv b' (2) (0) (.slice X1 m1 d1) (.slice X2 m2 d2), hv b' (2) (0) (.slice A1 m1 c1) (.slice A2 m2 c2)] u fun e w' => e = .returned (.bool true) ∧ Below u.heap.size u w') := Lib.hid (fun u hu =>
          Same_any hm1' hm2' (Lib.hid (RX.out.1.below hu)) (Lib.hid (RX.out.2.below hu)) (Lib.hid (RY.out.1.below hu)) (Lib.hid (RY.out.2.below hu)))
        have HA : Hid (∀ u, Below V.heap.size V u → Calls Tryd.prog 16 #[.pointer (some ⟨r, 0, none⟩)] u fun e w' => e = .returned (.int .i64 (M : Int)) ∧ w' = u) := Lib.hid (fun u hu => At_any (RV.out.below hu))
        have HN : Hid (∀ u, Below V.heap.size V u → Calls Tryd.prog 24 #[.pointer (some ⟨g, 0, none⟩)] u fun e w' => e = .returned (.int .i64 (M : Int)) ∧ u = w') := Lib.hid (fun u hu => Len_any (Blk.below WV.out hu))
        have c0 := KXV.out.cell 0
        have c1' := KXV.out.cell 1
        have c2' := KXV.out.cell 2
        have c3 := KXV.out.cell 3
        have c4 := KXV.out.cell 4
        have y0 := KYV.out.cell 0
        have y1 := KYV.out.cell 1
        have y2 := KYV.out.cell 2
        have y3 := KYV.out.cell 3
        have y4 := KYV.out.cell 4
        have hXV := KXV.out.lt
        have hYV := KYV.out.lt
        have keeps : ∀ u u' : World, (u.cell? ⟨w8.heap.size, 0, none⟩ = some (.bool b') ∧ u.cell? ⟨w8.heap.size, 1, none⟩ = some (.int .i64 2) ∧ u.cell? ⟨w8.heap.size, 2, none⟩ = some (.int .i64 0) ∧ u.cell? ⟨w8.heap.size, 3, none⟩ = some (.slice X1 m1 d1) ∧ u.cell? ⟨w8.heap.size, 4, none⟩ = some (.slice X2 m2 d2) ∧ u.cell? ⟨w8.heap.size + 1, 0, none⟩ = some (.bool b') ∧ u.cell? ⟨w8.heap.size + 1, 1, none⟩ = some (.int .i64 2) ∧ u.cell? ⟨w8.heap.size + 1, 2, none⟩ = some (.int .i64 0) ∧ u.cell? ⟨w8.heap.size + 1, 3, none⟩ = some (.slice A1 m1 c1) ∧ u.cell? ⟨w8.heap.size + 1, 4, none⟩ = some (.slice A2 m2 c2) ∧ Below V.heap.size V u) → Below u.heap.size u u' → (u'.cell? ⟨w8.heap.size, 0, none⟩ = some (.bool b') ∧ u'.cell? ⟨w8.heap.size, 1, none⟩ = some (.int .i64 2) ∧ u'.cell? ⟨w8.heap.size, 2, none⟩ = some (.int .i64 0) ∧ u'.cell? ⟨w8.heap.size, 3, none⟩ = some (.slice X1 m1 d1) ∧ u'.cell? ⟨w8.heap.size, 4, none⟩ = some (.slice X2 m2 d2) ∧ u'.cell? ⟨w8.heap.size + 1, 0, none⟩ = some (.bool b') ∧ u'.cell? ⟨w8.heap.size + 1, 1, none⟩ = some (.int .i64 2) ∧ u'.cell? ⟨w8.heap.size + 1, 2, none⟩ = some (.int .i64 0) ∧ u'.cell? ⟨w8.heap.size + 1, 3, none⟩ = some (.slice A1 m1 c1) ∧ u'.cell? ⟨w8.heap.size + 1, 4, none⟩ = some (.slice A2 m2 c2) ∧ Below V.heap.size V u') := fun u u' h hb => by
          have hs := h.2.2.2.2.2.2.2.2.2.2.size
          obtain ⟨a0, a1, a2, a3, a4, a5, a6, a7, a8, a9, a10⟩ := h
          exact ⟨(hb.cell (p := ⟨w8.heap.size, 0, none⟩) (by show w8.heap.size < _; omega)).trans a0, (hb.cell (p := ⟨w8.heap.size, 1, none⟩) (by show w8.heap.size < _; omega)).trans a1, (hb.cell (p := ⟨w8.heap.size, 2, none⟩) (by show w8.heap.size < _; omega)).trans a2, (hb.cell (p := ⟨w8.heap.size, 3, none⟩) (by show w8.heap.size < _; omega)).trans a3, (hb.cell (p := ⟨w8.heap.size, 4, none⟩) (by show w8.heap.size < _; omega)).trans a4,
            (hb.cell (p := ⟨w8.heap.size + 1, 0, none⟩) (by show w8.heap.size + 1 < _; omega)).trans a5, (hb.cell (p := ⟨w8.heap.size + 1, 1, none⟩) (by show w8.heap.size + 1 < _; omega)).trans a6, (hb.cell (p := ⟨w8.heap.size + 1, 2, none⟩) (by show w8.heap.size + 1 < _; omega)).trans a7, (hb.cell (p := ⟨w8.heap.size + 1, 3, none⟩) (by show w8.heap.size + 1 < _; omega)).trans a8, (hb.cell (p := ⟨w8.heap.size + 1, 4, none⟩) (by show w8.heap.size + 1 < _; omega)).trans a9, grows a10 hb⟩
        clear hXV hYV KXV KYV RX RY RV WV hm1' hm2'
        go_region_held3 (fun u => u.cell? ⟨w8.heap.size, 0, none⟩ = some (.bool b') ∧ u.cell? ⟨w8.heap.size, 1, none⟩ = some (.int .i64 2) ∧ u.cell? ⟨w8.heap.size, 2, none⟩ = some (.int .i64 0) ∧ u.cell? ⟨w8.heap.size, 3, none⟩ = some (.slice X1 m1 d1) ∧ u.cell? ⟨w8.heap.size, 4, none⟩ = some (.slice X2 m2 d2) ∧ u.cell? ⟨w8.heap.size + 1, 0, none⟩ = some (.bool b') ∧ u.cell? ⟨w8.heap.size + 1, 1, none⟩ = some (.int .i64 2) ∧ u.cell? ⟨w8.heap.size + 1, 2, none⟩ = some (.int .i64 0) ∧ u.cell? ⟨w8.heap.size + 1, 3, none⟩ = some (.slice A1 m1 c1) ∧ u.cell? ⟨w8.heap.size + 1, 4, none⟩ = some (.slice A2 m2 c2) ∧ Below V.heap.size V u)
          (first | exact ⟨c0, c1', c2', c3, c4, y0, y1, y2, y3, y4, below_drew (Below.refl _ _)⟩ | assumption | (apply keeps; assumption; assumption))
          (first | (go_at_call 15; refine (taken_any _ _ _ _ _ _ _ _ _ _).mono ?_; rintro e u1 ⟨rfl, hu1⟩) | (go_at_call 14; refine (HS.out _ (show _ ∧ _ ∧ _ ∧ _ ∧ _ ∧ _ ∧ _ ∧ _ ∧ _ ∧ _ ∧ Below _ V _ by assumption).2.2.2.2.2.2.2.2.2.2).mono ?_; rintro e u1 ⟨rfl, hu1⟩) | (go_at_call 16; refine (HA.out _ (show _ ∧ _ ∧ _ ∧ _ ∧ _ ∧ _ ∧ _ ∧ _ ∧ _ ∧ _ ∧ Below _ V _ by assumption).2.2.2.2.2.2.2.2.2.2).mono ?_; rintro e u1 ⟨rfl, rfl⟩) | (go_at_call 24; refine (HN.out _ (show _ ∧ _ ∧ _ ∧ _ ∧ _ ∧ _ ∧ _ ∧ _ ∧ _ ∧ _ ∧ Below _ V _ by assumption).2.2.2.2.2.2.2.2.2.2).mono ?_; rintro e u1 ⟨rfl, rfl⟩) | (go_at_call 8; refine (known_any _).mono ?_; rintro e u1 ⟨rfl, hu1⟩))
        have hB := (show _ ∧ _ ∧ _ ∧ _ ∧ _ ∧ _ ∧ _ ∧ _ ∧ _ ∧ _ ∧ Below _ V _ by assumption).2.2.2.2.2.2.2.2.2.2
        go_wp2
        go_ret
        exact ⟨rfl, grows BV.out hB⟩
    · have hne : (er != 0) = true := by simpa using he
      have e0 : wrO b k z n1 f1 n2 f2 n = [] := by unfold wrO; rw [if_neg (by rw [← HER.out]; exact he)]
      rw [e0] at t6
      have W6 := Lib.hid t6.b
      clear he e0 t6 e6 HER
      go_wp2_with fail
      refine (Len_any W6.out).mono ?_
      rintro e w' ⟨rfl, hw⟩
      rw [← hw]
      clear hw
      go_wp2_with fail
      refine (known_any w6).mono ?_
      rintro e w7 ⟨rfl, b7⟩
      have B7 := Lib.hid b7
      clear b7
      go_wp2
      go_ret
      exact ⟨rfl, grows (grows HB1.out B6.out) B7.out⟩
  · have hd : decide (n1 ≤ 400 ∧ n2 ≤ 400) = false := by simpa using hlt
    rw [hd] at HL
    clear hlt hd
    go_enter Tryd.func5, Tryd.ntmps5
    go_wp2_with fail
    rw [← hw1]
    refine (HL w1).out.mono ?_
    rintro e w2 ⟨rfl, b2⟩
    have B2 := Lib.hid b2
    clear b2
    go_wp2_with fail
    refine (known_any w2).mono ?_
    rintro e w3 ⟨rfl, b3⟩
    have B3 := Lib.hid b3
    clear b3
    go_wp2
    go_ret
    exact ⟨rfl, grows (grows HB1.out B2.out) B3.out⟩
end Go.Proofs.YtgbdecnaamlekaaDoor.blockBack
