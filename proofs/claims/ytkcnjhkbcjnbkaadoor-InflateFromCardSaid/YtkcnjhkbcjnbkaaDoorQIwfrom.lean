/-
  InflateFrom: from the first bit of each block, with the text ahead of it as preset, the rest of the text is made, with the same end.
  Conditions: none.
  The walk of the call.
-/
import Derived.Test.YtkcnjhkbcjnbkaaDoorQIwpreset
namespace Go.Proofs.YtkcnjhkbcjnbkaaDoor.inflateFrom
open Go.RowKit
open Go.Proofs.YtkcnjhkbcjnbkaaDoor.Bw Go.Proofs.YtkcnjhkbcjnbkaaDoor.Lw Go.Proofs.YtkcnjhkbcjnbkaaDoor.Ky Go.Proofs.YtkcnjhkbcjnbkaaDoor.Fm Go.Proofs.YtkcnjhkbcjnbkaaDoor.Fa Go.Proofs.YtkcnjhkbcjnbkaaDoor.Ib Go.Proofs.YtkcnjhkbcjnbkaaDoor.Ik Go.Proofs.YtkcnjhkbcjnbkaaDoor.In Go.Proofs.YtkcnjhkbcjnbkaaDoor.Iq Go.Proofs.YtkcnjhkbcjnbkaaDoor.inflatePreset

/-- From a block's start on. -/
theorem from_tot (t q : ByteArray) (h0 : (tot t 0 (Wm.lastN 32768 q.data.toList)).1 = 0) {i : Nat} {x : Nat × Nat} (hx : (tot t 0 (Wm.lastN 32768 q.data.toList)).2.1[i]? = some x) :
    x.2 ≤ (tot t 0 (Wm.lastN 32768 q.data.toList)).2.2.2.length ∧ x.1 ≤ 8 * t.size ∧ ∀ q2 : ByteArray, q2.data.toList = q.data.toList ++ (tot t 0 (Wm.lastN 32768 q.data.toList)).2.2.2.take x.2 →
      (tot t x.1 (Wm.lastN 32768 q2.data.toList)).1 = 0 ∧ (tot t x.1 (Wm.lastN 32768 q2.data.toList)).2.2.1 = (tot t 0 (Wm.lastN 32768 q.data.toList)).2.2.1 ∧ (tot t x.1 (Wm.lastN 32768 q2.data.toList)).2.2.2 = (tot t 0 (Wm.lastN 32768 q.data.toList)).2.2.2.drop x.2
        ∧ (tot t x.1 (Wm.lastN 32768 q2.data.toList)).2.1.length = (tot t 0 (Wm.lastN 32768 q.data.toList)).2.1.length - i := by
  obtain ⟨p, hp⟩ : ∃ p, p = Wm.lastN 32768 q.data.toList := ⟨_, rfl⟩
  rw [← hp] at h0 hx ⊢
  unfold tot at h0 hx ⊢
  obtain ⟨N, hN⟩ : ∃ N, N = Bm.num t.data.toList := ⟨_, rfl⟩
  obtain ⟨M, hM⟩ : ∃ M, M = 8 * t.size := ⟨_, rfl⟩
  rw [← hN, ← hM] at h0 hx ⊢
  obtain ⟨f1, f2, f3, f4, f5⟩ := all_from (N := N) (M := M) (M - 0) 0 p 0 i x (Nat.le_refl _) (Nat.zero_le _) h0 hx
  simp only [Nat.sub_zero] at f2 f5
  refine ⟨f2, f4, fun q2 hq2 => ?_⟩
  have hal : alike (Wm.lastN 32768 q2.data.toList) (p ++ (allM N M 0 p 0).2.2.2.take x.2) := by
    unfold alike
    rw [last_last, hq2, hp, Wm.lastN_cut]
  have e1 := all_alike (N := N) (M := M) (M - x.1) x.1 _ _ 0 (Nat.le_refl _) f4 hal
  have e2 := all_shift (N := N) (M := M) (M - x.1) x.1 (p ++ (allM N M 0 p 0).2.2.2.take x.2) 0 x.2 (Nat.le_refl _) f4
  rw [Nat.zero_add, f5] at e2
  rw [e1]
  obtain ⟨R, hR⟩ : ∃ R, R = allM N M x.1 (p ++ (allM N M 0 p 0).2.2.2.take x.2) 0 := ⟨_, rfl⟩
  rw [← hR] at e2 ⊢
  have g1 := congrArg Prod.fst e2
  have g2 := congrArg (fun r => r.2.1.length) e2
  have g3 := congrArg (fun r => r.2.2.1) e2
  have g4 := congrArg (fun r => r.2.2.2) e2
  simp only [List.length_map, List.length_drop] at g1 g2 g3 g4
  exact ⟨g1.symm, g3.symm, g4.symm, g2.symm⟩
theorem cut_low (s : ByteArray) (k : Nat) : (s.extract 0 k).data.toList = s.data.toList.take k := by
  simp [ByteArray.extract, ByteArray.copySlice]
theorem cut_high (s : ByteArray) (k : Nat) : (s.extract k s.size).data.toList = s.data.toList.drop k := by
  simp [ByteArray.extract, ByteArray.copySlice, List.take_of_length_le]

set_option maxHeartbeats 1000000 in
set_option maxRecDepth 100000 in
theorem walk (s q : ByteArray) (z : Int) (w : World) (_ws : s.size ≤ maxLen) (_wf : q.size ≤ maxLen) (wz : (Lit.int .u8 z).wf = true) (hO : ordM w) :
    Calls Tryd.prog 4 #[.string s, .string q, .int .u8 z] w fun e w' => e = .returned (.bool true) ∧ Below w.heap.size w w' := by
  have HS := Lib.hid (fun u => small_any s q u)
  have HK := Lib.hid (fun u (h : ordM u) => known_any u h)
  have HO := Lib.hid hO
  clear _ws _wf hO
  by_cases h1 : s.size ≤ 600 ∧ q.size ≤ 40000
  · rw [decide_eq_true h1] at HS
    have hz : 0 ≤ z ∧ z ≤ 255 := by simpa [Lit.wf, IntKind.min, IntKind.max, IntKind.signed, IntKind.bits] using wz
    obtain ⟨zn, rfl⟩ := Int.eq_ofNat_of_zero_le hz.1
    have HZ := Lib.hid hz.2
    have HA := Lib.hid (fun u (hu : ordM u) => all_any s 0 q u hu h1.1 (Nat.zero_le _) (by omega))
    have H1 := Lib.hid h1
    obtain ⟨p, hpe⟩ : ∃ p, p = Wm.lastN 32768 q.data.toList := ⟨_, rfl⟩
    have HPE := Lib.hid hpe
    clear wz hz h1 hpe
    go_enter Tryd.func4, Tryd.ntmps4
    go_wp2_with fail
    refine (HS.out _).mono ?_
    rintro e w' ⟨rfl, rfl⟩
    go_wp2_with fail
    refine (HA.out _ HO.out).mono ?_
    intro e w1 ha1
    obtain ⟨b1, hc1⟩ := alls_of ha1 HPE.out.symm
    have B1 := Lib.hid b1
    obtain ⟨R, hR⟩ : ∃ R, R = tot s 0 p := ⟨_, rfl⟩
    have HR := Lib.hid hR
    rw [← hR] at hc1
    clear ha1 b1 hR
    obtain ⟨E, L, En, T⟩ := R
    dsimp only at hc1
    rcases hc1 with ⟨hne1, rfl⟩ | ⟨he1, A1, n1, c1, rfl, hs1⟩
    · have hne1 : E ≠ 0 := hne1
      have hEb : (E != 0) = true := by simp [hne1]
      clear hne1
      go_wp2_with fail
      refine (HK.out _ (HO.out.below B1.out)).mono ?_
      rintro e w2 ⟨rfl, b2⟩
      go_wp2
      go_ret
      exact ⟨rfl, grows B1.out b2⟩
    · have he1 : E = 0 := he1
      subst he1
      have hs1 : strt _ w1 (.slice A1 n1 c1) L := hs1
      have hL1 : 1 ≤ L.length := by
        have h := (all_facts (N := Bm.num s.data.toList) (M := 8 * s.size) (8 * s.size - 0) 0 p 0 (Nat.le_refl _) (Nat.zero_le _)).2.2.2
        have hR := HR.out
        unfold tot at hR
        rw [← hR] at h
        exact h rfl
      obtain ⟨A9, c9, hv9, hq9⟩ := hs1.form
      obtain ⟨bb, hA9, hbb⟩ := hq9 (by omega)
      injection hv9 with hv91 hv92 hv93
      subst hv91; subst hv92; subst hA9
      clear hq9 hv93
      obtain ⟨n, hn⟩ : ∃ n, n = L.length := ⟨_, rfl⟩
      rw [← hn] at hs1 hL1 ⊢
      obtain ⟨i, hi⟩ : ∃ i, i = zn % n := ⟨_, rfl⟩
      have hin : i < n := by rw [hi]; exact Nat.mod_lt _ (by omega)
      obtain ⟨x, hx⟩ : ∃ x, L[i]? = some x := ⟨_, List.getElem?_eq_getElem (by omega)⟩
      obtain ⟨x1, x2⟩ := x
      have hc := hs1.cell hx
      have k0 : w1.cell? ⟨bb, i * 2, none⟩ = some (.int .i64 (x1 : Int)) := hc.1
      have k1 : w1.cell? ⟨bb, i * 2 + 1, none⟩ = some (.int .i64 (x2 : Int)) := hc.2
      have hmod : (zn : Int) % (n : Int) = (i : Int) := by rw [hi]; rfl
      have htmod : (zn : Int).tmod (n : Int) = (i : Int) := by rw [← hmod]; exact Int.tmod_eq_emod_of_nonneg (by omega)
      have HTM := Lib.hid htmod
      have HNB : Hid (n ≤ 10000) := Lib.hid (by
        have h := Ih.all_count (N := Bm.num s.data.toList) (M := 8 * s.size) (8 * s.size - 0) 0 p 0 (Nat.le_refl _) (Nat.zero_le _)
        have hR := HR.out
        unfold tot at hR
        rw [← hR] at h
        have h' : L.length ≤ 8 * s.size - 0 := h
        have := H1.out.1
        omega)
      have hzb : (zn : Int) ≤ 255 := HZ.out
      have hwz : IntKind.i64.wrap (zn : Int) = (zn : Int) := by rw [IntKind.wrap_i64]; omega
      have hn0 : ¬ ((n : Int) = 0) := by omega
      have hi0 : (0 : Int) ≤ (i : Int) := by omega
      have hi1 : (i : Int) < (n : Int) := by omega
      have HF := from_tot s q (by rw [← HPE.out, ← HR.out]) (i := i) (x := (x1, x2)) (by rw [← HPE.out, ← HR.out]; exact hx)
      rw [← HPE.out, ← HR.out] at HF
      have hx2 : x2 ≤ T.length := HF.1
      have HX1 : Hid (x1 ≤ 8 * s.size) := Lib.hid HF.2.1
      have HFF : Hid (∀ q2 : ByteArray, q2.data.toList = q.data.toList ++ T.take x2 → (tot s x1 (Wm.lastN 32768 q2.data.toList)).1 = 0 ∧ (tot s x1 (Wm.lastN 32768 q2.data.toList)).2.2.1 = En ∧ (tot s x1 (Wm.lastN 32768 q2.data.toList)).2.2.2 = T.drop x2 ∧ (tot s x1 (Wm.lastN 32768 q2.data.toList)).2.1.length = L.length - i) := Lib.hid HF.2.2
      obtain ⟨S, hS⟩ : ∃ S : ByteArray, S = ⟨T.toArray⟩ := ⟨_, rfl⟩
      have hST : S.data.toList = T := by rw [hS]
      have hSs : S.size = T.length := by rw [← hST, Array.length_toList]; rfl
      have HTL : Hid (T.length ≤ 9000000) := Lib.hid (by
        have h := (all_facts (N := Bm.num s.data.toList) (M := 8 * s.size) (8 * s.size - 0) 0 p 0 (Nat.le_refl _) (Nat.zero_le _)).1
        have hR := HR.out
        unfold tot at hR
        rw [← hR] at h
        have h' : T.length ≤ 258 * (8 * s.size - 0) := h
        have := H1.out.1
        omega)
      have HTL2 : Hid (S.size ≤ 9000000) := Lib.hid (by have := HTL.out; omega)
      have hx0 : (0 : Int) ≤ (x2 : Int) := by omega
      have hxS : (x2 : Int) ≤ (S.size : Int) := by omega
      have hxn : ¬ ((x2 : Int) < 0) := by omega
      have hxg : ¬ ((S.size : Int) < (x2 : Int)) := by omega
      have HS1 := Lib.hid hs1
      have HN := Lib.hid hn
      have HST := Lib.hid hST
      have HI := Lib.hid hin
      rw [← hS]
      clear hs1 HF hx hc hi hx2 hST hSs hn hin hL1 hS
      obtain ⟨w2, hw2⟩ : ∃ w2, w2 = w1.alloc (.cells #[.int .i64 (x1 : Int), .int .i64 (x2 : Int)] 41) := ⟨_, rfl⟩
      obtain ⟨G, hG⟩ : ∃ G, G = w1.heap.size := ⟨_, rfl⟩
      have B2 : Hid (Below w1.heap.size w1 w2) := Lib.hid (by rw [hw2]; exact (Below.refl _ w1).alloc (Nat.le_refl _) _)
      have KG : Hid (Blk w2 G 41 #[.int .i64 (x1 : Int), .int .i64 (x2 : Int)]) := Lib.hid (by rw [hw2, hG]; exact Blk.fresh w1 _ _)
      go_wp2_with fail
      rw [← hw2, ← hG]
      clear hw2 hG k0 k1 hmod htmod hzb hwz hn0 hi0 hi1
      have g0 : w2.cell? ⟨G, 0, none⟩ = some (.int .i64 (x1 : Int)) := KG.out.cell 0
      have g1 : w2.cell? ⟨G, 1, none⟩ = some (.int .i64 (x2 : Int)) := KG.out.cell 1
      obtain ⟨m2, hm2⟩ : ∃ m2, m2 = n - i := ⟨_, rfl⟩
      have HCAL : Hid (∀ u, Below w2.heap.size w2 u → Calls Tryd.prog 9 #[.string s, .int .i64 (x1 : Int), .string (q ++ S.extract 0 x2)] u fun e w' => ∃ A c, e = .returned (.tuple #[.string (S.extract x2 S.size), .slice A m2 c, .int .i64 (En : Int), .int .i64 0]) ∧ Below u.heap.size u w') := Lib.hid (fun u hu => by
        have h1 := HTL2.out
        have h2 := H1.out.2
        have h3 : (S.extract 0 x2).size ≤ S.size := by rw [ByteArray.size_extract]; omega
        refine (all_any s x1 (q ++ S.extract 0 x2) u (((HO.out.below B1.out).below B2.out).below hu) H1.out.1 HX1.out (by rw [ByteArray.size_append]; omega)).mono ?_
        intro e w' ha
        obtain ⟨f1, f2, f3, f4⟩ := HFF.out (q ++ S.extract 0 x2) (by rw [ByteArray.data_append, Array.toList_append, cut_low, HST.out])
        obtain ⟨bb, hc⟩ := alls_of ha rfl
        rcases hc with ⟨h, _⟩ | ⟨_, A, nn, c, rfl, hs⟩
        · exact absurd f1 h
        · refine ⟨A, c, ?_, bb⟩
          obtain ⟨A', c', hv, _⟩ := hs.form
          injection hv with _ hv2 _
          rw [f2, f3, hv2, f4, ← HN.out, ← hm2]
          have e1 : (⟨(T.drop x2).toArray⟩ : ByteArray) = S.extract x2 S.size := by
            have h := cut_high S x2
            rw [HST.out] at h
            rw [← h]
          rw [e1])
      have HM2 := Lib.hid hm2
      clear hm2
      have hcat : ¬ ((9223372036854775807 : Int) < (q.size : Int) + ((S.extract 0 x2).size : Int)) := by
        have h1 := HTL2.out
        have h2 := H1.out.2
        have h3 : (S.extract 0 x2).size ≤ S.size := by rw [ByteArray.size_extract]; omega
        omega
      have hcat2 : ¬ ((9223372036854775807 : Int) < (q.size : Int) + min (x2 : Int) (S.size : Int)) := by
        have h1 := HTL2.out
        have h2 := H1.out.2
        omega
      have hcat3 : ¬ (9223372036854775807 < q.size + min x2 S.size) := by
        have h1 := HTL2.out
        have h2 := H1.out.2
        omega
      have keeps : ∀ u, Below w2.heap.size w2 u → (u.cell? ⟨G, 0, none⟩ = some (.int .i64 (x1 : Int)) ∧ u.cell? ⟨G, 1, none⟩ = some (.int .i64 (x2 : Int)) ∧ Below w2.heap.size w2 u) := fun u hu =>
        ⟨(Below.cell hu (p := ⟨G, 0, none⟩) KG.out.lt).trans g0, (Below.cell hu (p := ⟨G, 1, none⟩) KG.out.lt).trans g1, hu⟩
      have S0 := keeps _ (Below.refl _ w2).drew
      go_region_held3 (fun u => u.cell? ⟨G, 0, none⟩ = some (.int .i64 (x1 : Int)) ∧ u.cell? ⟨G, 1, none⟩ = some (.int .i64 (x2 : Int)) ∧ Below w2.heap.size w2 u)
        (first | exact S0 | assumption)
        (first | (go_at_call 9; refine (HCAL.out _ (show _ ∧ _ ∧ Below _ w2 _ by assumption).2.2).mono ?_; rintro e w3 ⟨A3, c3, rfl, b3⟩; have bb3 := grows (show _ ∧ _ ∧ Below _ w2 _ by assumption).2.2 b3; have S3 := keeps _ bb3; have BB3 := Lib.hid bb3; clear b3 bb3))
      have hzb : (zn : Int) ≤ 255 := HZ.out
      have hwz : IntKind.i64.wrap (zn : Int) = (zn : Int) := by rw [IntKind.wrap_i64]; omega
      have htmod : (zn : Int).tmod (n : Int) = (i : Int) := HTM.out
      have hn0 : ¬ ((n : Int) = 0) := by have := HI.out; omega
      have hsub : IntKind.i64.wrap ((n : Int) - (i : Int)) = (m2 : Int) := by have h1 := HI.out; have h2 := HM2.out; have h3 := HNB.out; rw [IntKind.wrap_i64]; omega
      have g0' := S3.1
      have g1' := S3.2.1
      clear S0 S3 keeps hcat hcat2 hcat3
      go_wp2_with fail
      refine (HK.out _ (((HO.out.below B1.out).below B2.out).below BB3.out)).mono ?_
      rintro e w4 ⟨rfl, b4⟩
      go_wp2
      go_ret
      exact ⟨rfl, grows B1.out (grows B2.out (grows BB3.out b4))⟩
  · rw [decide_eq_false h1] at HS
    clear h1 wz
    go_enter Tryd.func4, Tryd.ntmps4
    go_wp2_with fail
    refine (HS.out _).mono ?_
    rintro e w' ⟨rfl, rfl⟩
    go_wp2_with fail
    refine (HK.out _ HO.out).mono ?_
    rintro e w2 ⟨rfl, b2⟩
    go_wp2
    go_ret
    exact ⟨rfl, b2⟩
end Go.Proofs.YtkcnjhkbcjnbkaaDoor.inflateFrom
