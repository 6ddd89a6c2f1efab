/-
  BlockReads: the head that is read from any bit of any bytes on, and the place behind it, are as the reference says, or what is wrong.
  Conditions: none.
  The walk of the call.
-/
import Derived.Test.YtgbdecnaamlekaaDoorQMi
import Derived.Test.YtgbdecnaamlekaaDoorQal
import Derived.Deep.RegionHeld3
namespace Go.Proofs.YtgbdecnaamlekaaDoor.blockReads
open Go.RowKit Go.Proofs.YtgbdecnaamlekaaDoor.Vm Go.Proofs.YtgbdecnaamlekaaDoor.Vo Go.Proofs.YtgbdecnaamlekaaDoor.Bm Go.Proofs.YtgbdecnaamlekaaDoor.Bt Go.Proofs.YtgbdecnaamlekaaDoor.Bw Go.Proofs.YtgbdecnaamlekaaDoor.Bp Go.Proofs.YtgbdecnaamlekaaDoor.Bs Go.Proofs.YtgbdecnaamlekaaDoor.Bv Go.Proofs.YtgbdecnaamlekaaDoor.Bx Go.Proofs.YtgbdecnaamlekaaDoor.Na Go.Proofs.YtgbdecnaamlekaaDoor.Nf Go.Proofs.YtgbdecnaamlekaaDoor.Nm Go.Proofs.YtgbdecnaamlekaaDoor.Ni Go.Proofs.YtgbdecnaamlekaaDoor.Ne Go.Proofs.YtgbdecnaamlekaaDoor.Nh Go.Proofs.YtgbdecnaamlekaaDoor.Pm Go.Proofs.YtgbdecnaamlekaaDoor.Pw Go.Proofs.YtgbdecnaamlekaaDoor.Pi Go.Proofs.YtgbdecnaamlekaaDoor.Ko Go.Proofs.YtgbdecnaamlekaaDoor.Ka Go.Proofs.YtgbdecnaamlekaaDoor.Kb Go.Proofs.YtgbdecnaamlekaaDoor.Km Go.Proofs.YtgbdecnaamlekaaDoor.Kw Go.Proofs.YtgbdecnaamlekaaDoor.Ks Go.Proofs.YtgbdecnaamlekaaDoor.Kc Go.Proofs.YtgbdecnaamlekaaDoor.Kd Go.Proofs.YtgbdecnaamlekaaDoor.Ke Go.Proofs.YtgbdecnaamlekaaDoor.Ky Go.Proofs.YtgbdecnaamlekaaDoor.Kx Go.Proofs.YtgbdecnaamlekaaDoor.Ku Go.Proofs.YtgbdecnaamlekaaDoor.Kh Go.Proofs.YtgbdecnaamlekaaDoor.Be Go.Proofs.YtgbdecnaamlekaaDoor.Ki Go.Proofs.YtgbdecnaamlekaaDoor.Kl Go.Proofs.YtgbdecnaamlekaaDoor.Kn Go.Proofs.YtgbdecnaamlekaaDoor.Ma Go.Proofs.YtgbdecnaamlekaaDoor.Kp Go.Proofs.YtgbdecnaamlekaaDoor.Br Go.Proofs.YtgbdecnaamlekaaDoor.Bq Go.Proofs.YtgbdecnaamlekaaDoor.Pr Go.Proofs.YtgbdecnaamlekaaDoor.Me Go.Proofs.YtgbdecnaamlekaaDoor.Mf Go.Proofs.YtgbdecnaamlekaaDoor.Mg Go.Proofs.YtgbdecnaamlekaaDoor.Kz Go.Proofs.YtgbdecnaamlekaaDoor.Mh Go.Proofs.YtgbdecnaamlekaaDoor.Mi Go.Proofs.YtgbdecnaamlekaaDoor.Kf Go.Proofs.YtgbdecnaamlekaaDoor.Kk Go.Proofs.YtgbdecnaamlekaaDoor.Kg

set_option maxHeartbeats 8000000 in
set_option maxRecDepth 100000 in
theorem walk (s : ByteArray) (at_ : Int) (w : World) (_ws : s.size ≤ maxLen) (wa : (Lit.int .i64 at_).wf = true) (hO : ordM w) :
    Calls Tryd.prog 3 #[.string s, .int .i64 at_] w fun e w' => e = .returned (.bool true) ∧ Below w.heap.size w w' := by
  clear _ws
  by_cases hs : 5000 < s.size
  · clear hO
    go_enter Tryd.func3, Tryd.ntmps3
    go_wp2_with fail
    refine (known_any w).mono ?_
    rintro e w1 ⟨rfl, b1⟩
    go_wp2
    go_ret
    exact ⟨rfl, b1⟩
  have hcl := Go.Proofs.YtgbdecnaamlekaaDoor.Cc.cnt_lt at_ (m := 8 * s.size + 1) (by omega)
  have HC := Lib.hid (Go.Proofs.YtgbdecnaamlekaaDoor.Cc.Count_any at_ (8 * s.size + 1) (by simpa [Lit.wf, IntKind.min, IntKind.max, IntKind.signed, IntKind.bits] using wa) (by omega) (by omega) w)
  obtain ⟨k, hk⟩ : ∃ k, k = Go.Proofs.YtgbdecnaamlekaaDoor.Cc.cnt at_ (8 * s.size + 1) := ⟨_, rfl⟩
  rw [← hk] at hcl HC
  have hk8 : k ≤ 8 * s.size := by omega
  have HO := Lib.hid hO
  clear hk hO wa hcl
  go_enter Tryd.func3, Tryd.ntmps3
  go_wp2_with fail
  refine HC.out.mono ?_
  rintro e w' ⟨rfl, hw⟩
  rw [← hw]
  clear hw
  go_wp2_with fail
  refine (Bs.New_ok s k w (by omega) hk8).mono ?_
  rintro e w1 ⟨g, rfl, r1, hg, b1⟩
  have R1 := Lib.hid r1
  have B1 := Lib.hid b1
  have HG : Hid (w.heap.size ≤ g ∧ g < w1.heap.size) := Lib.hid ⟨Nat.le_of_eq hg.symm, r1.lt⟩
  clear r1 b1 hg
  go_wp2_with fail
  refine (rNew_ok s k w1 (by omega) hk8).mono ?_
  rintro e w2 ⟨q, rfl, q2, hq, b2⟩
  have R2 := Lib.hid (R1.out.below b2)
  have Q2 := Lib.hid q2
  have B2 := Lib.hid (grows B1.out b2)
  have HQ : Hid (w.heap.size ≤ q ∧ q < w2.heap.size ∧ g ≠ q) := Lib.hid (by have := HG.out; have := B1.out.size; have := q2.lt; omega)
  have O2 := Lib.hid (HO.out.below B2.out)
  clear q2 b2 hq R1
  go_wp2_with fail
  refine (Read_all R2.out O2.out (by omega) hk8).mono ?_
  rintro e w3 ⟨b, kk, z, A1, n1, c1, A2, n2, c2, rfl, i3, r3, o3⟩
  obtain ⟨er, her⟩ : ∃ er, er = (headM (num s.data.toList) (8 * s.size) k).1 := ⟨_, rfl⟩
  obtain ⟨hd, hhd⟩ : ∃ hd, hd = (headM (num s.data.toList) (8 * s.size) k).2.1 := ⟨_, rfl⟩
  obtain ⟨p, hp⟩ : ∃ p, p = (headM (num s.data.toList) (8 * s.size) k).2.2 := ⟨_, rfl⟩
  have hle := head_len (num s.data.toList) (8 * s.size) k
  rw [← hhd] at hle i3
  rw [← hp] at r3
  rw [← her]
  have HER := Lib.hid her
  have HHD := Lib.hid hhd
  have HP := Lib.hid hp
  have HLE := Lib.hid hle
  have B3 : Hid (Below w.heap.size w w3) := Lib.hid (o3.below B2.out B2.out.size (fun i hi => by have : i = g := hi; have := HG.out; omega))
  have I3 := Lib.hid i3
  have R3 := Lib.hid r3
  have Q3 := Lib.hid (Blk.only Q2.out o3 (fun e => HQ.out.2.2 (by have : q = g := e; exact this.symm)))
  have k4 := Blk.fresh w3 33 #[.bool b, .int .i64 kk, .int .i64 z, .slice A1 n1 c1, .slice A2 n2 c2]
  have b4 := below_alloc w3 (.cells #[.bool b, .int .i64 kk, .int .i64 z, .slice A1 n1 c1, .slice A2 n2 c2] 33)
  obtain ⟨w4, hw4⟩ : ∃ w4, w4 = w3.alloc (.cells #[.bool b, .int .i64 kk, .int .i64 z, .slice A1 n1 c1, .slice A2 n2 c2] 33) := ⟨_, rfl⟩
  rw [← hw4] at k4 b4
  have K4 := Lib.hid k4
  have B4 := Lib.hid (grows B3.out b4)
  have I4 := Lib.hid (I3.out.below b4)
  have R4 := Lib.hid (R3.out.below b4)
  have Q4 := Lib.hid (Blk.below Q3.out b4)
  clear i3 r3 o3 k4 b4 her hhd hp hle R2 Q2 O2 I3 R3 Q3
  go_wp2_with fail
  rw [← hw4]
  clear hw4
  refine (rRead_all Q4.out (by omega) hk8).mono ?_
  rintro e w5 ⟨b', kk', z', D1, m1, e1, D2, m2, e2, rfl, i5, q5, o5⟩
  rw [← HHD.out] at i5
  rw [← HP.out] at q5
  rw [← HER.out]
  have hXq : w3.heap.size ≠ q := Blk.apart K4.out Q4.out (by decide)
  have B5 : Hid (Below w.heap.size w w5) := Lib.hid (o5.below B4.out B4.out.size (fun i hi => by have : i = q := hi; have := HQ.out; omega))
  have kX5 := K4.out.only o5 hXq
  have i4 := I4.out.off o5 (fun i hi => by
    obtain rfl : i = q := hi
    exact ⟨_, _, Q4.out, by decide⟩)
  have r5 := Blk.only R4.out o5 (fun e => HQ.out.2.2 (by have : g = q := e; exact this))
  obtain ⟨hb, hkk, hz, hn1, hn2, x1, x2⟩ := isH.parts i4
  obtain ⟨hb', hkk', hz', hm1, hm2, y1, y2⟩ := isH.parts i5
  obtain rfl : b' = b := hb'.trans hb.symm
  obtain rfl : kk' = kk := hkk'.trans hkk.symm
  obtain rfl : z' = z := hz'.trans hz.symm
  obtain rfl : m1 = n1 := hm1.trans hn1.symm
  obtain rfl : m2 = n2 := hm2.trans hn2.symm
  have hm1' : m1 ≤ 9223372036854775807 := by rw [hm1]; exact Nat.le_trans HLE.out.1 (by omega)
  have hm2' : m2 ≤ 9223372036854775807 := by rw [hm2]; exact Nat.le_trans HLE.out.2 (by omega)
  have k6 := Blk.fresh w5 36 #[.bool b', .int .i64 kk', .int .i64 z', .slice D1 m1 e1, .slice D2 m2 e2]
  have b6 := below_alloc w5 (.cells #[.bool b', .int .i64 kk', .int .i64 z', .slice D1 m1 e1, .slice D2 m2 e2] 36)
  obtain ⟨V, hV⟩ : ∃ V, V = w5.alloc (.cells #[.bool b', .int .i64 kk', .int .i64 z', .slice D1 m1 e1, .slice D2 m2 e2] 36) := ⟨_, rfl⟩
  rw [← hV] at k6 b6
  have KXV := Lib.hid (kX5.below b6)
  have KYV := Lib.hid k6
  have RX := Lib.hid (And.intro (x1.below b6) (x2.below b6))
  have RY := Lib.hid (And.intro (y1.below b6) (y2.below b6))
  have RV := Lib.hid (Blk.below r5 b6)
  have QV := Lib.hid (Blk.below q5 b6)
  have BV := Lib.hid (grows B5.out b6)
  clear hXq B5 kX5 i4 r5 hb hkk hz hn1 hn2 x1 x2 hb' hkk' hz' hm1 hm2 y1 y2 k6 b6 i5 q5 o5 K4 I4 R4 Q4 HHD HER HP HLE
  go_wp2_with fail
  rw [← hV]
  clear hV
  have HS : Hid (∀ u, Below V.heap.size V u → Calls Tryd.prog 14 #[hv b' kk' z' (.slice A1 m1 c1) (.slice A2 m2 c2), hv b' kk' z' (.slice D1 m1 e1) (.slice D2 m2 e2)] u fun e w' => e = .returned (.bool true) ∧ Below u.heap.size u w') := Lib.hid (fun u hu =>
    Same_any hm1' hm2' (Lib.hid (RX.out.1.below hu)) (Lib.hid (RX.out.2.below hu)) (Lib.hid (RY.out.1.below hu)) (Lib.hid (RY.out.2.below hu)))
  have HA : Hid (∀ u, Below V.heap.size V u → Calls Tryd.prog 16 #[.pointer (some ⟨g, 0, none⟩)] u fun e w' => e = .returned (.int .i64 (p : Int)) ∧ w' = u) := Lib.hid (fun u hu => At_any (Blk.below RV.out hu))
  have c0 := KXV.out.cell 0
  have c1' := KXV.out.cell 1
  have c2' := KXV.out.cell 2
  have c3 := KXV.out.cell 3
  have c4 := KXV.out.cell 4
  have y0 := KYV.out.cell 0
  have y1 := KYV.out.cell 1
  have y2 := KYV.out.cell 2
  have y3 := KYV.out.cell 3
  have y4 := KYV.out.cell 4
  have q1 := Blk.cell QV.out 1
  have hXV := KXV.out.lt
  have hYV := KYV.out.lt
  have hqV : q < V.heap.size := Blk.lt QV.out
  have keeps : ∀ u u' : World, (u.cell? ⟨w3.heap.size, 0, none⟩ = some (.bool b') ∧ u.cell? ⟨w3.heap.size, 1, none⟩ = some (.int .i64 kk') ∧ u.cell? ⟨w3.heap.size, 2, none⟩ = some (.int .i64 z') ∧ u.cell? ⟨w3.heap.size, 3, none⟩ = some (.slice A1 m1 c1) ∧ u.cell? ⟨w3.heap.size, 4, none⟩ = some (.slice A2 m2 c2) ∧ u.cell? ⟨w5.heap.size, 0, none⟩ = some (.bool b') ∧ u.cell? ⟨w5.heap.size, 1, none⟩ = some (.int .i64 kk') ∧ u.cell? ⟨w5.heap.size, 2, none⟩ = some (.int .i64 z') ∧ u.cell? ⟨w5.heap.size, 3, none⟩ = some (.slice D1 m1 e1) ∧ u.cell? ⟨w5.heap.size, 4, none⟩ = some (.slice D2 m2 e2) ∧ u.cell? ⟨q, 1, none⟩ = some (.int .i64 (p : Int)) ∧ Below V.heap.size V u) → Below u.heap.size u u' → (u'.cell? ⟨w3.heap.size, 0, none⟩ = some (.bool b') ∧ u'.cell? ⟨w3.heap.size, 1, none⟩ = some (.int .i64 kk') ∧ u'.cell? ⟨w3.heap.size, 2, none⟩ = some (.int .i64 z') ∧ u'.cell? ⟨w3.heap.size, 3, none⟩ = some (.slice A1 m1 c1) ∧ u'.cell? ⟨w3.heap.size, 4, none⟩ = some (.slice A2 m2 c2) ∧ u'.cell? ⟨w5.heap.size, 0, none⟩ = some (.bool b') ∧ u'.cell? ⟨w5.heap.size, 1, none⟩ = some (.int .i64 kk') ∧ u'.cell? ⟨w5.heap.size, 2, none⟩ = some (.int .i64 z') ∧ u'.cell? ⟨w5.heap.size, 3, none⟩ = some (.slice D1 m1 e1) ∧ u'.cell? ⟨w5.heap.size, 4, none⟩ = some (.slice D2 m2 e2) ∧ u'.cell? ⟨q, 1, none⟩ = some (.int .i64 (p : Int)) ∧ Below V.heap.size V u') := fun u u' h hb => by
    have hs := h.2.2.2.2.2.2.2.2.2.2.2.size
    obtain ⟨a0, a1, a2, a3, a4, a5, a6, a7, a8, a9, a10, a11⟩ := h
    exact ⟨(hb.cell (p := ⟨w3.heap.size, 0, none⟩) (by show w3.heap.size < _; omega)).trans a0, (hb.cell (p := ⟨w3.heap.size, 1, none⟩) (by show w3.heap.size < _; omega)).trans a1, (hb.cell (p := ⟨w3.heap.size, 2, none⟩) (by show w3.heap.size < _; omega)).trans a2, (hb.cell (p := ⟨w3.heap.size, 3, none⟩) (by show w3.heap.size < _; omega)).trans a3, (hb.cell (p := ⟨w3.heap.size, 4, none⟩) (by show w3.heap.size < _; omega)).trans a4, (hb.cell (p := ⟨w5.heap.size, 0, none⟩) (by show w5.heap.size < _; omega)).trans a5, (hb.cell (p := ⟨w5.heap.size, 1, none⟩) (by show w5.heap.size < _; omega)).trans a6, (hb.cell (p := ⟨w5.heap.size, 2, none⟩) (by show w5.heap.size < _; omega)).trans a7, (hb.cell (p := ⟨w5.heap.size, 3, none⟩) (by show w5.heap.size < _; omega)).trans a8, (hb.cell (p := ⟨w5.heap.size, 4, none⟩) (by show w5.heap.size < _; omega)).trans a9, (hb.cell (p := ⟨q, 1, none⟩) (by show q < _; omega)).trans a10, grows a11 hb⟩
  clear hXV hYV hqV KXV KYV RX RY RV QV hm1' hm2'
  go_region_held3 (fun u => u.cell? ⟨w3.heap.size, 0, none⟩ = some (.bool b') ∧ u.cell? ⟨w3.heap.size, 1, none⟩ = some (.int .i64 kk') ∧ u.cell? ⟨w3.heap.size, 2, none⟩ = some (.int .i64 z') ∧ u.cell? ⟨w3.heap.size, 3, none⟩ = some (.slice A1 m1 c1) ∧ u.cell? ⟨w3.heap.size, 4, none⟩ = some (.slice A2 m2 c2) ∧ u.cell? ⟨w5.heap.size, 0, none⟩ = some (.bool b') ∧ u.cell? ⟨w5.heap.size, 1, none⟩ = some (.int .i64 kk') ∧ u.cell? ⟨w5.heap.size, 2, none⟩ = some (.int .i64 z') ∧ u.cell? ⟨w5.heap.size, 3, none⟩ = some (.slice D1 m1 e1) ∧ u.cell? ⟨w5.heap.size, 4, none⟩ = some (.slice D2 m2 e2) ∧ u.cell? ⟨q, 1, none⟩ = some (.int .i64 (p : Int)) ∧ Below V.heap.size V u)
    (first | exact ⟨c0, c1', c2', c3, c4, y0, y1, y2, y3, y4, q1, below_drew (Below.refl _ _)⟩ | assumption | (apply keeps; assumption; assumption))
    (first | (go_at_call 15; refine (taken_any _ _ _ _ _ _ _ _ _ _).mono ?_; rintro e u1 ⟨rfl, hu1⟩) | (go_at_call 14; refine (HS.out _ (show _ ∧ _ ∧ _ ∧ _ ∧ _ ∧ _ ∧ _ ∧ _ ∧ _ ∧ _ ∧ _ ∧ Below _ V _ by assumption).2.2.2.2.2.2.2.2.2.2.2).mono ?_; rintro e u1 ⟨rfl, hu1⟩) | (go_at_call 16; refine (HA.out _ (show _ ∧ _ ∧ _ ∧ _ ∧ _ ∧ _ ∧ _ ∧ _ ∧ _ ∧ _ ∧ _ ∧ Below _ V _ by assumption).2.2.2.2.2.2.2.2.2.2.2).mono ?_; rintro e u1 ⟨rfl, rfl⟩) | (go_at_call 8; refine (known_any _).mono ?_; rintro e u1 ⟨rfl, hu1⟩))
  have hB := (show _ ∧ _ ∧ _ ∧ _ ∧ _ ∧ _ ∧ _ ∧ _ ∧ _ ∧ _ ∧ _ ∧ Below _ V _ by assumption).2.2.2.2.2.2.2.2.2.2.2
  go_wp2
  go_ret
  exact ⟨rfl, grows BV.out hB⟩
end Go.Proofs.YtgbdecnaamlekaaDoor.blockReads
