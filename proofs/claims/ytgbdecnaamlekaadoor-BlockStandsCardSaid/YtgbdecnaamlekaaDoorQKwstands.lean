/-
  BlockStands: with an error the reader stands where it stood; without one it stands further on, not behind the end; what is read can be written.
  Conditions: none.
  The walk of the call.
-/
import Derived.Test.YtgbdecnaamlekaaDoorQbe
import Derived.Test.YtgbdecnaamlekaaDoorQal
namespace Go.Proofs.YtgbdecnaamlekaaDoor.blockStands
open Go.RowKit Go.Proofs.YtgbdecnaamlekaaDoor.Vm Go.Proofs.YtgbdecnaamlekaaDoor.Vo Go.Proofs.YtgbdecnaamlekaaDoor.Bm Go.Proofs.YtgbdecnaamlekaaDoor.Bt Go.Proofs.YtgbdecnaamlekaaDoor.Bw Go.Proofs.YtgbdecnaamlekaaDoor.Bp Go.Proofs.YtgbdecnaamlekaaDoor.Bs Go.Proofs.YtgbdecnaamlekaaDoor.Bv Go.Proofs.YtgbdecnaamlekaaDoor.Bx Go.Proofs.YtgbdecnaamlekaaDoor.Na Go.Proofs.YtgbdecnaamlekaaDoor.Nf Go.Proofs.YtgbdecnaamlekaaDoor.Nm Go.Proofs.YtgbdecnaamlekaaDoor.Ni Go.Proofs.YtgbdecnaamlekaaDoor.Ne Go.Proofs.YtgbdecnaamlekaaDoor.Nh Go.Proofs.YtgbdecnaamlekaaDoor.Pm Go.Proofs.YtgbdecnaamlekaaDoor.Pw Go.Proofs.YtgbdecnaamlekaaDoor.Pi Go.Proofs.YtgbdecnaamlekaaDoor.Ko Go.Proofs.YtgbdecnaamlekaaDoor.Ka Go.Proofs.YtgbdecnaamlekaaDoor.Kb Go.Proofs.YtgbdecnaamlekaaDoor.Km Go.Proofs.YtgbdecnaamlekaaDoor.Kw Go.Proofs.YtgbdecnaamlekaaDoor.Ks Go.Proofs.YtgbdecnaamlekaaDoor.Kc Go.Proofs.YtgbdecnaamlekaaDoor.Kd Go.Proofs.YtgbdecnaamlekaaDoor.Ke Go.Proofs.YtgbdecnaamlekaaDoor.Ky Go.Proofs.YtgbdecnaamlekaaDoor.Kx Go.Proofs.YtgbdecnaamlekaaDoor.Ku Go.Proofs.YtgbdecnaamlekaaDoor.Kh Go.Proofs.YtgbdecnaamlekaaDoor.Ki Go.Proofs.YtgbdecnaamlekaaDoor.Kl Go.Proofs.YtgbdecnaamlekaaDoor.Kn Go.Proofs.YtgbdecnaamlekaaDoor.Kf Go.Proofs.YtgbdecnaamlekaaDoor.Kk Go.Proofs.YtgbdecnaamlekaaDoor.Kg Go.Proofs.YtgbdecnaamlekaaDoor.Br

set_option maxHeartbeats 2000000 in
set_option maxRecDepth 100000 in
theorem walk (s : ByteArray) (at_ : Int) (w : World) (_ws : s.size ≤ maxLen) (wa : (Lit.int .i64 at_).wf = true) (hO : ordM w) :
    Calls Tryd.prog 6 #[.string s, .int .i64 at_] w fun e w' => e = .returned (.bool true) ∧ Below w.heap.size w w' := by
  clear _ws
  by_cases hs : 5000 < s.size
  · clear hO
    go_enter Tryd.func6, Tryd.ntmps6
    go_wp2_with fail
    refine (known_any w).mono ?_
    rintro e w1 ⟨rfl, b1⟩
    go_wp2
    go_ret
    exact ⟨rfl, b1⟩
  have hcl := Go.Proofs.YtgbdecnaamlekaaDoor.Cc.cnt_lt at_ (m := 8 * s.size + 1) (by omega)
  have HC := Lib.hid (Go.Proofs.YtgbdecnaamlekaaDoor.Cc.Count_any at_ (8 * s.size + 1) (by simpa [Lit.wf, IntKind.min, IntKind.max, IntKind.signed, IntKind.bits] using wa) (by omega) (by omega) w)
  obtain ⟨k, hk⟩ : ∃ k, k = Go.Proofs.YtgbdecnaamlekaaDoor.Cc.cnt at_ (8 * s.size + 1) := ⟨_, rfl⟩
  rw [← hk] at hcl HC
  have hk8 : k ≤ 8 * s.size := by omega
  have HO := Lib.hid hO
  clear hk hO wa hcl
  go_enter Tryd.func6, Tryd.ntmps6
  go_wp2_with fail
  refine HC.out.mono ?_
  rintro e w' ⟨rfl, hw⟩
  rw [← hw]
  clear hw
  go_wp2_with fail
  refine (New_ok s k w (by omega) hk8).mono ?_
  rintro e w1 ⟨g, rfl, r1, hg, b1⟩
  have R1 := Lib.hid r1
  have B1 := Lib.hid b1
  have HG := Lib.hid hg
  have O1 := Lib.hid (HO.out.below b1)
  clear r1 b1 hg
  go_wp2_with fail
  refine (Read_all R1.out O1.out (by omega) hk8).mono ?_
  rintro e w2 ⟨b, kk, z, A1, n1, c1, A2, n2, c2, rfl, i2, r2, o2⟩
  have hgw : w.heap.size ≤ g := Nat.le_of_eq HG.out.symm
  have B2 : Hid (Below w.heap.size w w2) := Lib.hid (o2.below B1.out B1.out.size (fun i hi => by have : i = g := hi; omega))
  have O2 := Lib.hid (HO.out.below B2.out)
  obtain ⟨hb, hkk, hz, hn1, hn2, rr1, rr2⟩ := isH.parts i2
  have I2 := Lib.hid (And.intro rr1 rr2)
  have R2 := Lib.hid r2
  obtain ⟨er, her⟩ : ∃ er, er = (headM (num s.data.toList) (8 * s.size) k).1 := ⟨_, rfl⟩
  rw [← her]
  have b3 := below_alloc w2 (.cells #[.bool b, .int .i64 kk, .int .i64 z, .slice A1 n1 c1, .slice A2 n2 c2] 33)
  have k3 := Blk.fresh w2 33 #[.bool b, .int .i64 kk, .int .i64 z, .slice A1 n1 c1, .slice A2 n2 c2]
  obtain ⟨w3, hw3⟩ : ∃ w3, w3 = w2.alloc (.cells #[.bool b, .int .i64 kk, .int .i64 z, .slice A1 n1 c1, .slice A2 n2 c2] 33) := ⟨_, rfl⟩
  rw [← hw3] at b3 k3
  have B23 := Lib.hid b3
  have K3 := Lib.hid k3
  have R3 := Lib.hid (r2.below b3)
  have B3 : Hid (Below w.heap.size w w3) := Lib.hid (grows B2.out b3)
  have O3 := Lib.hid (O2.out.below b3)
  have HW3 := Lib.hid hw3
  clear i2 rr1 rr2 r2 o2 b3 k3 R1 O1 B1 HG hw3
  by_cases he : er = 0
  · obtain ⟨hok, hp1, hp2⟩ := head_facts (her.symm.trans he)
    have hwr := wr_read hok hn1 hn2
    rw [← hkk, ← hz] at hwr
    obtain ⟨l1, hl1⟩ : ∃ l1, l1 = (headM (num s.data.toList) (8 * s.size) k).2.1.lits := ⟨_, rfl⟩
    obtain ⟨l2, hl2⟩ : ∃ l2, l2 = (headM (num s.data.toList) (8 * s.size) k).2.1.dists := ⟨_, rfl⟩
    obtain ⟨p, hp⟩ : ∃ p, p = (headM (num s.data.toList) (8 * s.size) k).2.2 := ⟨_, rfl⟩
    rw [← hl1, ← hl2] at I2 hwr
    rw [← hp] at R3 hp1 hp2
    have HWR := Lib.hid hwr
    have hle := head_len (num s.data.toList) (8 * s.size) k
    rw [← hn1, ← hn2] at hle
    obtain ⟨hn1', hn2'⟩ := hle
    have hp1' : (k : Int) + 3 ≤ (p : Int) := by omega
    have hp2' : (p : Int) ≤ 8 * (s.size : Int) := by omega
    subst he
    clear hwr hok hkk hz hb hn1 hn2 her hl1 hl2 hp R2
    go_wp2_with fail
    rw [← HW3.out]
    refine (Open_any w3).mono ?_
    rintro e w4 ⟨g2, rfl, t4, hg2, b4⟩
    have T4 := Lib.hid t4
    have HG2 := Lib.hid hg2
    have B4 := Lib.hid (grows B3.out b4)
    have R4 := Lib.hid (R3.out.below b4)
    have K4 := Lib.hid (K3.out.below b4)
    have HRW : Hid (∀ x, Only (own g2 (.slice none 0 0)) w4 x → row x A1 n1 (ix l1) ∧ row x A2 n2 (ix l2) ∧ ordM x) := Lib.hid (fun x o => by
      have h3 := past b4 (fun i hi => by
        rcases hi with e | e
        · have := HG2.out; omega
        · simp [Value.ownBlock] at e) o
      exact ⟨(I2.out.1.below B23.out).below h3, (I2.out.2.below B23.out).below h3, O3.out.below h3⟩)
    have HWr := Lib.hid (Write_any (b := b) (k := kk) (z := z) (c1 := c1) (c2 := c2) T4 b4.size (by omega) (by omega) (by omega) HRW)
    rw [HWR.out] at HWr
    clear t4 hg2 b4 R3 K3
    go_wp2_with fail
    refine (At_any R4.out).mono ?_
    rintro e w' ⟨rfl, hw⟩
    rw [hw]
    clear hw
    go_wp2_with fail
    refine (At_any R4.out).mono ?_
    rintro e w' ⟨rfl, hw⟩
    rw [hw]
    clear hw
    have q0 := K4.out.cell 0
    have q1 := K4.out.cell 1
    have q2 := K4.out.cell 2
    have q3 := K4.out.cell 3
    have q4 := K4.out.cell 4
    go_wp2_with fail
    clear q0 q1 q2 q3 q4
    refine HWr.out.mono ?_
    rintro e w5 ⟨rfl, v5, g5⟩
    have B5 : Hid (Below w.heap.size w w5) := Lib.hid (by
      have hb3 := B3.out.size
      have hg3 := HG2.out
      exact g5.o.below B4.out B4.out.size (fun i hi => by
        rcases hi with e | e
        · omega
        · simp [Value.ownBlock] at e))
    clear g5
    go_wp2_with fail
    refine (known_any w5).mono ?_
    rintro e w6 ⟨rfl, b6⟩
    have B6 := Lib.hid b6
    clear b6
    go_wp2
    go_ret
    exact ⟨rfl, grows B5.out B6.out⟩
  · obtain ⟨he1, he2⟩ := head_err (by rw [← her]; exact he)
    rw [he1] at hb hkk hz hn1 hn2
    rw [he2] at R3
    have hne : (er != 0) = true := by simpa using he
    have e1 : n1 = 0 := hn1
    have e2 : n2 = 0 := hn2
    have e3 : b = false := hb
    have e4 : kk = 0 := hkk
    have e5 : z = 0 := hz
    subst e1 e2 e3 e4 e5
    clear he her he1 he2 hb hkk hz hn1 hn2 I2 R2
    go_wp2_with fail
    rw [← HW3.out]
    refine (At_any R3.out).mono ?_
    rintro e w' ⟨rfl, hw⟩
    rw [hw]
    clear hw
    have q0 := K3.out.cell 0
    have q1 := K3.out.cell 1
    have q2 := K3.out.cell 2
    have q3 := K3.out.cell 3
    have q4 := K3.out.cell 4
    go_wp2_with fail
    clear q0 q1 q2 q3 q4
    refine (taken_any _ _ _ _ _ _ _ _ _ _).mono ?_
    rintro e w4 ⟨rfl, b4⟩
    have B4 := Lib.hid b4
    clear b4
    go_wp2_with fail
    refine (Same_any (n := 0) (m := 0) (f := fun _ => 0) (g := fun _ => 0) (by omega) (by omega) (Lib.hid (row_none _ _ _)) (Lib.hid (row_none _ _ _)) (Lib.hid (row_none _ _ _)) (Lib.hid (row_none _ _ _))).mono ?_
    rintro e w5 ⟨rfl, b5⟩
    have B5 := Lib.hid b5
    clear b5
    go_wp2_with fail
    refine (known_any w5).mono ?_
    rintro e w6 ⟨rfl, b6⟩
    have B6 := Lib.hid b6
    clear b6
    go_wp2
    go_ret
    exact ⟨rfl, grows (grows (grows B3.out B4.out) B5.out) B6.out⟩
end Go.Proofs.YtgbdecnaamlekaaDoor.blockStands
