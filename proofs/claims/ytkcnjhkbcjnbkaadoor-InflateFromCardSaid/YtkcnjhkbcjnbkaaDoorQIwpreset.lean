/-
  InflatePreset: bytes of the preset that lie further back than a copy may reach make no difference.
  Conditions: none.
  The walk of the call.
-/
import Derived.Test.YtkcnjhkbcjnbkaaDoorQbi
import Derived.Test.YtkcnjhkbcjnbkaaDoorQat
import Derived.Test.YtkcnjhkbcjnbkaaDoorQam
namespace Go.Proofs.YtkcnjhkbcjnbkaaDoor.inflatePreset
open Go.RowKit
open Go.Proofs.YtkcnjhkbcjnbkaaDoor.Bw Go.Proofs.YtkcnjhkbcjnbkaaDoor.Lw Go.Proofs.YtkcnjhkbcjnbkaaDoor.Ky Go.Proofs.YtkcnjhkbcjnbkaaDoor.Ib Go.Proofs.YtkcnjhkbcjnbkaaDoor.Ik Go.Proofs.YtkcnjhkbcjnbkaaDoor.In Go.Proofs.YtkcnjhkbcjnbkaaDoor.Iq Go.Proofs.YtkcnjhkbcjnbkaaDoor.Wg

/-- What All leaves, where what comes is r. -/
theorem alls_of {t : ByteArray} {a0 : Nat} {q : ByteArray} {w w' : World} {e : Ending} {p : List UInt8} (h : alls t a0 q w e w') (hp : Wm.lastN 32768 q.data.toList = p) :
    Below w.heap.size w w' ∧ (((tot t a0 p).1 ≠ 0 ∧ e = .returned (.tuple #[.string ⟨#[]⟩, .slice none 0 0, .int .i64 0, .int .i64 (tot t a0 p).1]))
      ∨ ((tot t a0 p).1 = 0 ∧ ∃ A n c, e = .returned (.tuple #[.string ⟨(tot t a0 p).2.2.2.toArray⟩, .slice A n c, .int .i64 ((tot t a0 p).2.2.1 : Int), .int .i64 0]) ∧ strt w.heap.size w' (.slice A n c) (tot t a0 p).2.1)) := by
  unfold alls at h
  rw [hp] at h
  refine ⟨h.1, h.2.imp id (fun ⟨h1, v', h2, h3⟩ => ⟨h1, ?_⟩)⟩
  obtain ⟨A, c, hv, _⟩ := h3.form
  subst hv
  exact ⟨A, _, c, h2, h3⟩

set_option maxHeartbeats 1000000 in
set_option maxRecDepth 100000 in
theorem walk (s far : ByteArray) (z : Int) (w : World) (_ws : s.size ≤ maxLen) (_wf : far.size ≤ maxLen) (wz : (Lit.int .u16 z).wf = true) (hO : ordM w) :
    Calls Tryd.prog 5 #[.string s, .string far, .int .u16 z] w fun e w' => e = .returned (.bool true) ∧ Below w.heap.size w w' := by
  have HS := Lib.hid (fun u => small_any s far u)
  have HK := Lib.hid (fun u (h : ordM u) => known_any u h)
  have HO := Lib.hid hO
  clear _ws _wf hO
  by_cases h1 : s.size ≤ 600 ∧ far.size ≤ 40000
  · rw [decide_eq_true h1] at HS
    by_cases h2 : far.size ≤ 100
    · have hl : ¬ ((100 : Int) < (far.size : Int)) := by omega
      have hz : 0 ≤ z ∧ z ≤ 65535 := by simpa [Lit.wf, IntKind.min, IntKind.max, IntKind.signed, IntKind.bits] using wz
      obtain ⟨zn, rfl⟩ := Int.eq_ofNat_of_zero_le hz.1
      obtain ⟨X, hX⟩ : ∃ X : ByteArray, X = far ++ ⟨#[120]⟩ := ⟨_, rfl⟩
      clear wz
      go_enter Tryd.func5, Tryd.ntmps5
      go_wp2_with fail
      refine (HS.out _).mono ?_
      rintro e w' ⟨rfl, rfl⟩
      go_wp2_with fail
      have e1 : (1 + (zn : Int) % 700) = ((1 + zn % 700 : Nat) : Int) := by omega
      obtain ⟨c, hc⟩ : ∃ c, c = 1 + zn % 700 := ⟨_, rfl⟩
      have hc7 : c ≤ 700 := by omega
      have hXs : X.size ≤ 101 := by rw [hX, ByteArray.size_append]; show far.size + 1 ≤ 101; omega
      rw [e1, ← hX, ← hc]
      refine (Again_any X c (by omega) (by omega) _).mono ?_
      rintro e w1 ⟨rfl, b1⟩
      have hPs0 : (Wm.again X.data.toList c).length ≤ 70700 := by
        rw [Wm.again_length, Array.length_toList]
        exact Nat.mul_le_mul hc7 hXs
      obtain ⟨P, hP⟩ : ∃ P : ByteArray, P = ⟨(Wm.again X.data.toList c).toArray⟩ := ⟨_, rfl⟩
      have hPs : P.size ≤ 70700 := by rw [hP]; show (Wm.again X.data.toList c).toArray.size ≤ 70700; rw [List.size_toArray]; exact hPs0
      rw [← hP]
      have B1 := Lib.hid b1
      clear b1 e1 hX hc hc7 hXs hP hPs0
      by_cases hlt : P.size < 32768
      · have hlt' : (P.size : Int) < 32768 := by omega
        go_wp2_with fail
        refine (HK.out _ (HO.out.below B1.out)).mono ?_
        rintro e w2 ⟨rfl, b2⟩
        go_wp2
        go_ret
        exact ⟨rfl, grows B1.out b2⟩
      · have hd : decide ((P.size : Int) < 32768) = false := decide_eq_false (by omega)
        have HLT := Lib.hid hlt
        have HPS := Lib.hid hPs
        clear hlt hPs
        go_wp2_with fail
        have hlt := HLT.out
        have hPs := HPS.out
        have hp : Wm.lastN 32768 (far ++ P).data.toList = Wm.lastN 32768 P.data.toList := by
          have e : (far ++ P).data.toList = far.data.toList ++ P.data.toList := by rw [ByteArray.data_append, Array.toList_append]
          rw [e]
          exact Wm.lastN_right (by rw [Array.length_toList]; show 32768 ≤ P.size; omega)
        have H1 := Lib.hid (all_any s 0 P w1 (HO.out.below B1.out) h1.1 (Nat.zero_le _) (by omega))
        have H2 := Lib.hid (fun u (hu : Below w1.heap.size w1 u) => all_any s 0 (far ++ P) u ((HO.out.below B1.out).below hu) h1.1 (Nat.zero_le _) (by rw [ByteArray.size_append]; omega))
        obtain ⟨p, hpe⟩ : ∃ p, p = Wm.lastN 32768 P.data.toList := ⟨_, rfl⟩
        rw [← hpe] at hp
        have HP := Lib.hid hp
        have HPE := Lib.hid hpe.symm
        have hcat : ¬ ((9223372036854775807 : Int) < (far.size : Int) + (P.size : Int)) := by omega
        clear hp hz hlt hPs hd hpe h1 h2 hl
        refine H1.out.mono ?_
        intro e w2 ha1
        obtain ⟨b2, hc1⟩ := alls_of ha1 HPE.out
        have B2 := Lib.hid b2
        clear ha1 b2 H1
        obtain ⟨R, hR⟩ : ∃ R, R = tot s 0 p := ⟨_, rfl⟩
        have HR := Lib.hid hR
        rw [← hR] at hc1
        obtain ⟨R1, R2, R3, R4⟩ := R
        clear hR
        rcases hc1 with ⟨hne1, rfl⟩ | ⟨he1, A1, n1, c1, rfl, hs1⟩
        · have HNE1 := Lib.hid hne1
          clear hne1
          go_wp2_with fail
          have hne1 := HNE1.out
          refine (H2.out _ B2.out).mono ?_
          intro e w3 ha2
          obtain ⟨b3, hc2⟩ := alls_of ha2 HP.out
          rw [← HR.out] at hc2
          have B3 := Lib.hid b3
          clear ha2 b3 H2
          rcases hc2 with ⟨hne2, rfl⟩ | ⟨he2, _⟩
          · clear hne1 hne2
            go_wp2_with fail
            refine (HK.out _ (((HO.out.below B1.out).below B2.out).below B3.out)).mono ?_
            rintro e w4 ⟨rfl, b4⟩
            go_wp2
            go_ret
            exact ⟨rfl, grows B1.out (grows B2.out (grows B3.out b4))⟩
          · exact absurd he2 hne1
        · have HNE1 := Lib.hid he1
          clear hs1 he1
          go_wp2_with fail
          have he1 := HNE1.out
          refine (H2.out _ B2.out).mono ?_
          intro e w3 ha2
          obtain ⟨b3, hc2⟩ := alls_of ha2 HP.out
          rw [← HR.out] at hc2
          have B3 := Lib.hid b3
          clear ha2 b3 H2
          rcases hc2 with ⟨hne2, _⟩ | ⟨he2, A2, n2, c2, rfl, hs2⟩
          · exact absurd he1 hne2
          · clear he1 he2 hs2
            go_wp2_with fail
            refine (HK.out _ (((HO.out.below B1.out).below B2.out).below B3.out)).mono ?_
            rintro e w4 ⟨rfl, b4⟩
            go_wp2
            go_ret
            exact ⟨rfl, grows B1.out (grows B2.out (grows B3.out b4))⟩
    · have hl : (100 : Int) < (far.size : Int) := by omega
      clear h1 h2 wz
      go_enter Tryd.func5, Tryd.ntmps5
      go_wp2_with fail
      refine (HS.out _).mono ?_
      rintro e w' ⟨rfl, rfl⟩
      go_wp2_with fail
      refine (HK.out _ HO.out).mono ?_
      rintro e w2 ⟨rfl, b2⟩
      go_wp2
      go_ret
      exact ⟨rfl, b2⟩
  · rw [decide_eq_false h1] at HS
    clear h1 wz
    go_enter Tryd.func5, Tryd.ntmps5
    go_wp2_with fail
    refine (HS.out _).mono ?_
    rintro e w' ⟨rfl, rfl⟩
    go_wp2_with fail
    refine (HK.out _ HO.out).mono ?_
    rintro e w2 ⟨rfl, b2⟩
    go_wp2
    go_ret
    exact ⟨rfl, b2⟩
end Go.Proofs.YtkcnjhkbcjnbkaaDoor.inflatePreset
