/-
  The reference's times, FixedLits and FixedDists: new lists; nothing that was there has changed.
  Conditions: as each theorem says.
-/
import Derived.Test.YtnkninjdpgpkmaaGreatDoorBaz
import Derived.Deep.LoopGhost
namespace Go.Proofs.YtnkninjdpgpkmaaGreatDoor.Kp
open Go.RowKit Go.Proofs.YtnkninjdpgpkmaaGreatDoor.Vm Go.Proofs.YtnkninjdpgpkmaaGreatDoor.Bw Go.Proofs.YtnkninjdpgpkmaaGreatDoor.Na Go.Proofs.YtnkninjdpgpkmaaGreatDoor.Nm Go.Proofs.YtnkninjdpgpkmaaGreatDoor.Ko Go.Proofs.YtnkninjdpgpkmaaGreatDoor.Nf Go.Proofs.YtnkninjdpgpkmaaGreatDoor.Ka Go.Proofs.YtnkninjdpgpkmaaGreatDoor.Kb Go.Proofs.YtnkninjdpgpkmaaGreatDoor.Km Go.Proofs.YtnkninjdpgpkmaaGreatDoor.Kd

set_option maxHeartbeats 1000000 in
set_option maxRecDepth 100000 in
theorem times_any {A : Option Addr} {m cap : Nat} {f : Nat → Int} {l : List Int} (x : Int) {n : Nat} {z : Int} (hz : z = (n : Int)) (hl : upto m f = l) (hn : m + n ≤ 1000000) {w : World} (HR : Hid (row w A m f)) :
    Calls Tryz.prog 89 #[.slice A m cap, .int .i64 z, .int .i64 x] w fun e w' => ∃ v, e = .returned v ∧ ints w' w.heap.size 3 v (l ++ List.replicate n x) ∧ Below w.heap.size w w' := by
  subst hz
  have HL := Lib.hid hl
  have hll : Hid (l.length = m) := Lib.hid (by rw [← hl, upto_length])
  obtain ⟨i0, hi, hz0, hz1, hz2⟩ := info_parts infoI
  clear hl
  go_enter Tryz.func89, Tryz.ntmps89
  go_wp2_with (at_builtin; refine wpList_append_row _ rfl _ _ 22 rfl w.heap.size 3 i0 Tryz.underlying22 hi hz0 hz1 hz2 _ [] rfl (ints_nil w w.heap.size 3) _ m cap f rfl HR.out (by simp; omega) (Nat.le_refl _) ?_; intro v2 w2 h2 g2 l2; have H2 : Hid (ints w2 w.heap.size 3 v2 l) := Lib.hid (by rw [← HL.out]; simpa using h2); have G2 : Hid (Below w.heap.size w w2) := Lib.hid ((Below.refl _ _).grown g2 (Nat.le_refl _) (fun k hk => by have h : (none : Option Nat) = some k := hk; cases h)); clear h2 g2 l2)
  go_loopw [8, 7] (fun s8 s7 wr => ∃ (k : Nat) (v7 : Value), s8 = .int .i64 (k : Int) ∧ s7 = v7 ∧ k ≤ n ∧ Hid (ints wr w.heap.size 3 v7 (l ++ List.replicate k x)) ∧ Hid (Below w.heap.size w wr)) (fun s8 _ _ => n - (intOf s8).toNat)
  case atStart => exact ⟨0, _, rfl, rfl, by omega, Lib.hid (by simpa using H2.out), G2⟩
  case round =>
    obtain ⟨k, v7, rfl, rfl, hk, HI, HB⟩ := hrel
    obtain ⟨A7, c7, hv7⟩ := HI.out.form
    rw [List.length_append, List.length_replicate, hll.out] at hv7
    subst hv7
    obtain ⟨X, hX⟩ : ∃ X, X = l ++ List.replicate k x := ⟨_, rfl⟩
    have hln : Hid (X.length = m + k) := Lib.hid (by rw [hX, List.length_append, List.length_replicate, hll.out])
    have HX := Lib.hid hX
    rw [← hX] at HI
    have HOn : Hid (wr.ownsRow w.heap.size 3 1 (.slice A7 (m + k) c7) (m + k) (Is X)) := Lib.hid (by have h := HI.out; unfold ints at h; rw [hln.out] at h; exact h)
    clear hX
    by_cases hkn : k < n
    · have hs := HB.out.size
      have HS := Lib.hid hs
      clear hs
      go_wp2_with (at_builtin; refine wpList_append_own_at _ rfl _ _ 22 rfl w.heap.size 3 i0 (.int .i64 0) 1 8 Tryz.underlying22 hi hz0 hz1 hz2 rfl (by decide) _ (m + k) (Is X) rfl (HOn.out.alloc _) ⟨wr.heap.size, 0, none⟩ 1 1 [.int .i64 x] rfl rfl (cell_one_new _ _ _) ?a2 ?a3 ?a4 ?a5 ?_)
      case a2 => intro q hq; simp at hq; subst hq; rfl
      case a3 => unfold maxLen; omega
      case a4 => omega
      case a5 => have := HS.out; rw [size_alloc]; omega
      intro v3 w3 h3 g3 _ _
      rw [← hln.out] at h3
      obtain ⟨k1, k2⟩ := ints_snoc (w := w) (Nat.le_refl _) HB.out HI.out h3 g3
      have K1 : Hid (ints w3 w.heap.size 3 v3 (l ++ List.replicate (k + 1) x)) := Lib.hid (by
        rw [HX.out, List.append_assoc, ← List.replicate_succ'] at k1; exact k1)
      have K2 := Lib.hid k2
      clear h3 g3 k1 k2
      go_wp2
      go_roundw
      case rel => exact ⟨k + 1, _, by go_num, rfl, by omega, K1, K2⟩
      case measure => simp [intOf]; omega
    · obtain rfl : k = n := by omega
      go_wp2
      go_ret
      exact ⟨_, rfl, by rw [← HX.out]; exact HI.out, HB.out⟩

theorem times_of {w : World} {base m : Nat} {v : Value} {l : List Int} (h : ints w base 3 v l) (hm : m = l.length) : ∃ A c, v = .slice A m c ∧ row w A m (at' l) ∧ upto m (at' l) = l := by
  subst hm
  obtain ⟨A, c, e⟩ := ints.form h
  subst e
  exact ⟨A, c, rfl, ints.row h, upto_at l⟩

set_option maxRecDepth 100000 in
theorem rFixedLits_any (w : World) : Calls Tryz.prog 53 #[] w fun e w' => ∃ v, e = .returned v ∧ ints w' w.heap.size 3 v (ofN fixL) ∧ Below w.heap.size w w' := by
  obtain ⟨l1, hl1⟩ : ∃ l1 : List Int, l1 = [] ++ List.replicate 144 8 := ⟨_, rfl⟩
  obtain ⟨l2, hl2⟩ : ∃ l2 : List Int, l2 = l1 ++ List.replicate 112 9 := ⟨_, rfl⟩
  obtain ⟨l3, hl3⟩ : ∃ l3 : List Int, l3 = l2 ++ List.replicate 24 7 := ⟨_, rfl⟩
  have e1 : 144 = l1.length := by rw [hl1, List.length_append, List.length_replicate]; rfl
  have e2 : 256 = l2.length := by rw [hl2, List.length_append, List.length_replicate, ← e1]
  have e3 : 280 = l3.length := by rw [hl3, List.length_append, List.length_replicate, ← e2]
  have HE : Hid (l3 ++ List.replicate 8 8 = ofN fixL) := Lib.hid (by
    rw [hl3, hl2, hl1, List.nil_append]
    unfold fixL
    rw [ofN_append, ofN_append, ofN_append, ofN_rep, ofN_rep, ofN_rep, ofN_rep]
    rfl)
  have E1 := Lib.hid e1; have E2 := Lib.hid e2; have E3 := Lib.hid e3
  have H1 := Lib.hid hl1; have H2 := Lib.hid hl2; have H3 := Lib.hid hl3
  clear e1 e2 e3 hl1 hl2 hl3
  go_enter Tryz.func53, Tryz.ntmps53
  go_wp2_with fail
  refine (times_any (m := 0) (n := 144) (f := fun _ => 0) (l := []) 8 rfl rfl (by omega) (Lib.hid (row_none _ _ _))).mono ?_
  rintro e w1 ⟨v1, rfl, k1, b1⟩
  rw [← H1.out] at k1
  obtain ⟨A1, c1, hv1, r1, u1⟩ := times_of k1 E1.out
  subst hv1
  have B1 := Lib.hid b1
  have R1 := Lib.hid r1
  have U1 := Lib.hid u1
  clear k1 b1 r1 u1
  go_wp2_with fail
  refine (times_any (n := 112) 9 rfl U1.out (by omega) R1).mono ?_
  rintro e w2 ⟨v2, rfl, k2, b2⟩
  rw [← H2.out] at k2
  obtain ⟨A2, c2, hv2, r2, u2⟩ := times_of k2 E2.out
  subst hv2
  have B2 := Lib.hid (grows B1.out b2)
  have R2 := Lib.hid r2
  have U2 := Lib.hid u2
  clear k2 b2 r2 u2
  go_wp2_with fail
  refine (times_any (n := 24) 7 rfl U2.out (by omega) R2).mono ?_
  rintro e w3 ⟨v3, rfl, k3, b3⟩
  rw [← H3.out] at k3
  obtain ⟨A3, c3, hv3, r3, u3⟩ := times_of k3 E3.out
  subst hv3
  have B3 := Lib.hid (grows B2.out b3)
  have R3 := Lib.hid r3
  have U3 := Lib.hid u3
  clear k3 b3 r3 u3
  go_wp2_with fail
  refine (times_any (n := 8) 8 rfl U3.out (by omega) R3).mono ?_
  rintro e w4 ⟨v4, rfl, k4, b4⟩
  rw [HE.out] at k4
  have B4 := Lib.hid (grows B3.out b4)
  have K4 := Lib.hid (ints_lower k4 B3.out.size)
  clear k4 b4
  go_wp2
  go_ret
  exact ⟨_, rfl, K4.out, B4.out⟩
theorem rFixedDists_any (w : World) : Calls Tryz.prog 54 #[] w fun e w' => ∃ v, e = .returned v ∧ ints w' w.heap.size 3 v (ofN fixD) ∧ Below w.heap.size w w' := by
  go_enter Tryz.func54, Tryz.ntmps54
  go_wp2_with fail
  refine (times_any (m := 0) (n := 32) (f := fun _ => 0) (l := []) 5 rfl rfl (by omega) (Lib.hid (row_none _ _ _))).mono ?_
  rintro e w1 ⟨v1, rfl, k1, b1⟩
  have e : ([] ++ List.replicate 32 (5 : Int)) = ofN fixD := by unfold fixD; rw [ofN_rep, List.nil_append]; rfl
  rw [e] at k1
  have B1 := Lib.hid b1
  have K1 := Lib.hid k1
  clear k1 b1 e
  go_wp2
  go_ret
  exact ⟨_, rfl, K1.out, B1.out⟩
end Go.Proofs.YtnkninjdpgpkmaaGreatDoor.Kp
