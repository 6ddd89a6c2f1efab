/-
  InflateAll: the text of any bytes, from any bit on, with any preset, its blocks' beginnings and its end, are as the reference says, or what is wrong.
  Conditions: none.
  The walk of the call.
-/
import Derived.Test.YtkcnjhkbcjnbkaaGreatDoorQbi
import Derived.Test.YtkcnjhkbcjnbkaaGreatDoorQbl
namespace Go.Proofs.YtkcnjhkbcjnbkaaGreatDoor.inflateAll
open Go.RowKit
open Go.Proofs.YtkcnjhkbcjnbkaaGreatDoor.Bw Go.Proofs.YtkcnjhkbcjnbkaaGreatDoor.Lw Go.Proofs.YtkcnjhkbcjnbkaaGreatDoor.Ky Go.Proofs.YtkcnjhkbcjnbkaaGreatDoor.Fm Go.Proofs.YtkcnjhkbcjnbkaaGreatDoor.Fa Go.Proofs.YtkcnjhkbcjnbkaaGreatDoor.Ib Go.Proofs.YtkcnjhkbcjnbkaaGreatDoor.Ik Go.Proofs.YtkcnjhkbcjnbkaaGreatDoor.In Go.Proofs.YtkcnjhkbcjnbkaaGreatDoor.Iq Go.Proofs.YtkcnjhkbcjnbkaaGreatDoor.Is Go.Proofs.YtkcnjhkbcjnbkaaGreatDoor.Ire Go.Proofs.YtkcnjhkbcjnbkaaGreatDoor.Irf Go.Proofs.YtkcnjhkbcjnbkaaGreatDoor.inflatePreset

set_option maxHeartbeats 2000000 in
set_option maxRecDepth 100000 in
theorem walk (s : ByteArray) (z : Int) (q : ByteArray) (w : World) (_ws : s.size ≤ maxLen) (wz : (Lit.int .i64 z).wf = true) (_wf : q.size ≤ maxLen) (hO : ordM w) :
    Calls Tryz.prog 3 #[.string s, .int .i64 z, .string q] w fun e w' => e = .returned (.bool true) ∧ Below w.heap.size w w' := by
  have HS := Lib.hid (fun u => small_any s q u)
  have HK := Lib.hid (fun u (h : ordM u) => known_any u h)
  have HO := Lib.hid hO
  clear _ws _wf hO
  by_cases h1 : s.size ≤ 600 ∧ q.size ≤ 40000
  · rw [decide_eq_true h1] at HS
    have hz : -9223372036854775808 ≤ z ∧ z ≤ 9223372036854775807 := by simpa [Lit.wf, IntKind.min, IntKind.max, IntKind.signed, IntKind.bits] using wz
    have hsz : (s.size : Int) ≤ 600 := by omega
    by_cases hr : z < 0 ∨ 8 * (s.size : Int) < z
    · have HA := Lib.hid (fun u => all_arg s z q u (by omega) hr)
      clear wz h1
      rcases (show z < 0 ∨ (¬ z < 0 ∧ 8 * (s.size : Int) < z) by omega) with h2 | ⟨h2, h3⟩
      all_goals
        clear hr
        go_enter Tryz.func3, Tryz.ntmps3
        go_wp2_with fail
        refine (HS.out _).mono ?_
        rintro e w' ⟨rfl, rfl⟩
        go_wp2_with fail
        refine (HA.out _).mono ?_
        rintro e w' ⟨rfl, rfl⟩
        go_wp2_with fail
        refine (HK.out _ HO.out).mono ?_
        rintro e w2 ⟨rfl, b2⟩
        go_wp2
        go_ret
        exact ⟨rfl, b2⟩
    · obtain ⟨a0, rfl⟩ := Int.eq_ofNat_of_zero_le (show 0 ≤ z by omega)
      have ha : a0 ≤ 8 * s.size := by omega
      have HA := Lib.hid (fun u (hu : ordM u) => all_any s a0 q u hu h1.1 ha (by omega))
      have HRA := Lib.hid (fun u => rAll_any (w := u) h1.1 ha h1.2)
      have hz0 : ¬ (a0 : Int) < 0 := by omega
      have hz1 : ¬ 8 * (s.size : Int) < (a0 : Int) := by omega
      obtain ⟨p, hpe⟩ : ∃ p, p = Wm.lastN 32768 q.data.toList := ⟨_, rfl⟩
      have HPE := Lib.hid hpe
      have HLL := Lib.hid (show (tot s a0 p).2.1.length ≤ 1000000 by
        have h := Ih.all_count (N := Bm.num s.data.toList) (M := 8 * s.size) (8 * s.size - a0) a0 p 0 (Nat.le_refl _) ha
        unfold tot
        omega)
      clear wz hz h1 hpe hr ha
      go_enter Tryz.func3, Tryz.ntmps3
      go_wp2_with fail
      refine (HS.out _).mono ?_
      rintro e w' ⟨rfl, rfl⟩
      go_wp2_with fail
      refine (HA.out _ HO.out).mono ?_
      intro e w1 ha1
      obtain ⟨b1, hc1⟩ := alls_of ha1 HPE.out.symm
      have B1 := Lib.hid b1
      have HR2 := Lib.hid (HRA.out w1)
      rw [← HPE.out] at HR2
      unfold allR at HR2
      obtain ⟨R, hR⟩ : ∃ R, R = tot s a0 p := ⟨_, rfl⟩
      rw [← hR] at hc1 HR2 HLL
      clear ha1 b1 hR
      obtain ⟨E, L, En, T⟩ := R
      dsimp only at hc1 HR2 HLL
      obtain ⟨S, hS⟩ : ∃ S : ByteArray, S = ⟨T.toArray⟩ := ⟨_, rfl⟩
      rw [← hS] at hc1 HR2
      clear hS
      rcases hc1 with ⟨hne1, rfl⟩ | ⟨he1, A1, n1, c1, rfl, hs1⟩
      · have hne1 : E ≠ 0 := hne1
        have hEb : (E != 0) = true := by simp [hne1]
        clear hne1
        go_wp2_with fail
        refine HR2.out.mono ?_
        rintro e w2 ⟨vS, x, rfl, hrs, _, b2⟩
        have BB := Lib.hid (grows B1.out b2)
        obtain ⟨A2, c2, hv2, _⟩ := hrs.form
        subst hv2
        clear b2 hrs
        obtain ⟨n2, hn2⟩ : ∃ n2, n2 = L.length := ⟨_, rfl⟩
        rw [← hn2]
        clear hn2
        obtain ⟨w3, hw3⟩ : ∃ w3, w3 = w2.alloc (.cells #[.string S, .slice A2 n2 c2, .int .i64 x, .int .i64 E] 30) := ⟨_, rfl⟩
        have BB3 := Lib.hid (grows BB.out (show Below w2.heap.size w2 w3 by rw [hw3]; exact (Below.refl _ w2).alloc (Nat.le_refl _) _))
        go_wp2_with fail
        rw [← hw3]
        refine (HK.out _ (HO.out.below BB3.out)).mono ?_
        rintro e w4 ⟨rfl, b4⟩
        go_wp2
        go_ret
        exact ⟨rfl, grows BB3.out b4⟩
      · have he1 : E = 0 := he1
        subst he1
        have HS1 : Hid (strt w.heap.size w1 (.slice A1 n1 c1) L) := Lib.hid hs1
        clear hs1
        go_wp2_with fail
        refine HR2.out.mono ?_
        rintro e w2 ⟨vS, x, rfl, hrs, hx, b2⟩
        obtain rfl : x = (En : Int) := hx (by trivial)
        have B2 := Lib.hid b2
        obtain ⟨A2, c2, hv2, _⟩ := hrs.form
        subst hv2
        have hrs : rst w1.heap.size w2 (.slice A2 L.length c2) L := hrs
        obtain ⟨n2, hn2⟩ : ∃ n2, n2 = L.length := ⟨_, rfl⟩
        rw [← hn2] at hrs ⊢
        have RS := Lib.hid hrs
        clear b2 hrs hn2 hx
        obtain ⟨w3, hw3⟩ : ∃ w3, w3 = w2.alloc (.cells #[.string S, .slice A2 n2 c2, .int .i64 (En : Int), .int .i64 0] 30) := ⟨_, rfl⟩
        obtain ⟨Y, hY⟩ : ∃ Y, Y = w2.heap.size := ⟨_, rfl⟩
        have B3 : Hid (Below w2.heap.size w2 w3) := Lib.hid (by rw [hw3]; exact (Below.refl _ w2).alloc (Nat.le_refl _) _)
        have K3 : Hid (Blk w3 Y 30 #[.string S, .slice A2 n2 c2, .int .i64 (En : Int), .int .i64 0]) := Lib.hid (by rw [hw3, hY]; exact Blk.fresh _ _ _)
        have BD : Hid (Below w3.heap.size w3 w3.drew) := Lib.hid ((Below.refl _ w3).drew)
        have BB := Lib.hid (grows (grows (grows B1.out B2.out) B3.out) BD.out)
        have HSd := Lib.hid (((HS1.out.below B2.out).below B3.out).below BD.out)
        have RSd := Lib.hid ((RS.out.below B3.out).below BD.out)
        go_wp2_with fail
        rw [← hw3, ← hY]
        clear hw3 hY
        have k0 : w3.cell? ⟨Y, 0, none⟩ = some (.string S) := K3.out.cell 0
        have k1 : w3.cell? ⟨Y, 1, none⟩ = some (.slice A2 n2 c2) := K3.out.cell 1
        have k2 : w3.cell? ⟨Y, 2, none⟩ = some (.int .i64 (En : Int)) := K3.out.cell 2
        have k3 : w3.cell? ⟨Y, 3, none⟩ = some (.int .i64 0) := K3.out.cell 3
        go_wp2_with fail
        go_region_held3 (fun u => u.cell? ⟨Y, 0, none⟩ = some (.string S) ∧ u.cell? ⟨Y, 1, none⟩ = some (.slice A2 n2 c2) ∧ u.cell? ⟨Y, 2, none⟩ = some (.int .i64 (En : Int)))
          (first | exact ⟨k0, k1, k2⟩ | assumption)
          (first | (go_at_call 10; refine (starts_any HSd.out HLL.out).mono ?_; rintro e w5 ⟨v5, rfl, r5, b5⟩; obtain ⟨A5, c5, hv5, _⟩ := r5.form; subst hv5; have R5 := Lib.hid r5; have B5 := Lib.hid b5; have K5 := Lib.hid ((K3.out.below BD.out).below b5); have p5 : w5.cell? ⟨Y, 0, none⟩ = some (.string S) ∧ w5.cell? ⟨Y, 1, none⟩ = some (.slice A2 n2 c2) ∧ w5.cell? ⟨Y, 2, none⟩ = some (.int .i64 (En : Int)) := ⟨K5.out.cell 0, K5.out.cell 1, K5.out.cell 2⟩; clear r5 b5) | (go_at_call 9; refine (Starts_same R5.out (RSd.out.below B5.out) HLL.out).mono ?_; rintro e w6 ⟨rfl, b6⟩; have B6 := Lib.hid b6; have K6 := Lib.hid (K5.out.below b6); have p6 : w6.cell? ⟨Y, 0, none⟩ = some (.string S) ∧ w6.cell? ⟨Y, 1, none⟩ = some (.slice A2 n2 c2) ∧ w6.cell? ⟨Y, 2, none⟩ = some (.int .i64 (En : Int)) := ⟨K6.out.cell 0, K6.out.cell 1, K6.out.cell 2⟩; clear b6) | (go_at_call 6; refine (HK.out _ (HO.out.below (grows (grows BB.out B5.out) B6.out))).mono ?_; rintro e w8 ⟨rfl, b8⟩; have B8 := Lib.hid b8; have K8 := Lib.hid (K6.out.below b8); have p8 : w8.cell? ⟨Y, 0, none⟩ = some (.string S) ∧ w8.cell? ⟨Y, 1, none⟩ = some (.slice A2 n2 c2) ∧ w8.cell? ⟨Y, 2, none⟩ = some (.int .i64 (En : Int)) := ⟨K8.out.cell 0, K8.out.cell 1, K8.out.cell 2⟩; clear b8))
        go_wp2
        go_ret
        exact ⟨rfl, grows (grows (grows BB.out B5.out) B6.out) B8.out⟩
  · rw [decide_eq_false h1] at HS
    clear h1
    go_enter Tryz.func3, Tryz.ntmps3
    go_wp2_with fail
    refine (HS.out _).mono ?_
    rintro e w' ⟨rfl, rfl⟩
    go_wp2_with fail
    refine (HK.out _ HO.out).mono ?_
    rintro e w2 ⟨rfl, b2⟩
    go_wp2
    go_ret
    exact ⟨rfl, b2⟩
end Go.Proofs.YtkcnjhkbcjnbkaaGreatDoor.inflateAll
