/-
  The reference's Step, Run and After (layer 18).
  Conditions: a text of at most 2^63 - 1 bytes.
-/
import Derived.Test.YtfipagndpoahlaaUg
namespace Go.Proofs.Ytfipagndpoahlaa.Uh
open Go.RowKit Go.PlainAid Go.Proofs.Ytfipagndpoahlaa.Bw Go.Proofs.Ytfipagndpoahlaa.Na Go.Proofs.Ytfipagndpoahlaa.Ko Go.Proofs.Ytfipagndpoahlaa.Ua Go.Proofs.Ytfipagndpoahlaa.Ub Go.Proofs.Ytfipagndpoahlaa.Uc Go.Proofs.Ytfipagndpoahlaa.Ud Go.Proofs.Ytfipagndpoahlaa.Ue Go.Proofs.Ytfipagndpoahlaa.Uf Go.Proofs.Ytfipagndpoahlaa.Ug

set_option maxHeartbeats 2000000 in
set_option maxRecDepth 100000 in
theorem rStep_any {w : World} {V : Array Value} {D : Df} {c : Nat} (z : Int) (hc : c < 256) (H : Hid (dfa w V D)) :
    Calls Try.prog 12 #[.agg V, .int .i64 z, .int .u8 (c : Int)] w fun e w' => e = .returned (.int .i64 (stpI D z c)) ∧ Below w.heap.size w w' := by
  obtain ⟨A1, c1, A2, c2, HH⟩ := H.out
  have HH := Lib.hid HH
  obtain ⟨w1, hw1⟩ : ∃ w1, w1 = w.alloc (.cells V 26) := ⟨_, rfl⟩
  have B1 : Hid (Below w.heap.size w w1) := Lib.hid (by rw [hw1]; exact below_alloc _ _)
  have K1 : Hid (Blk w1 w.heap.size 26 V) := Lib.hid (by rw [hw1]; exact Blk.fresh _ _ _)
  obtain ⟨N, hsz, hld⟩ := load_dfa (g := w.heap.size) HH.out.size
  have HR := Lib.hid (rRight_any (Lib.hid (H.out.below B1.out)))
  obtain ⟨K, hK⟩ : ∃ K, K = D.nx.length := ⟨_, rfl⟩
  have HD1 : Hid (∀ u, Below w1.heap.size w1 u → u.cell? ⟨w.heap.size, 256, none⟩ = some (.slice A1 K c1)) := Lib.hid (fun u k => ((K1.out.below k).cell 256).trans (by rw [hK]; exact HH.out.vn))
  have HKK := Lib.hid hK
  have hb1 := K1.out
  clear hK
  by_cases ho : okD D
  · have HO := Lib.hid ho
    by_cases hz : inS D z
    · obtain ⟨p, rfl⟩ := Int.eq_ofNat_of_zero_le hz.1
      have hp : p < D.nx.length := by have := hz.2; omega
      have HE := Lib.hid (stpI_yes (c := c) ho hp)
      obtain ⟨l, q, hl, hq, hql, ht, _⟩ := okD_way ho hp hc
      obtain ⟨b1, o1, hA1, hb1', A', c', hrw, hlc, hlm, hr⟩ := (HH.out.n.below B1.out) p l hl
      obtain ⟨b3, o3, rfl, hb3, hce⟩ := hr q hql
      obtain ⟨X, hX⟩ : ∃ X, X = l.length := ⟨_, rfl⟩
      obtain ⟨t, htt⟩ : ∃ t, t = tq D p c := ⟨_, rfl⟩
      subst hA1
      have HC : Hid (∀ u, Below w1.heap.size w1 u → u.cell? ⟨w.heap.size, c, none⟩ = some (.int .i64 (q : Int)) ∧ u.cell? ⟨b1, o1 + p, none⟩ = some (.slice (some ⟨b3, o3, none⟩) X c') ∧ u.cell? ⟨b3, o3 + q, none⟩ = some (.int .i64 (t : Int))) := Lib.hid (fun u k => ⟨((K1.out.below k).cell c).trans (by rw [HH.out.vc hc, hq]), (k.cell (p := ⟨b1, o1 + p, none⟩) hb1').trans (by rw [hX]; exact hrw), (k.cell (p := ⟨b3, o3 + q, none⟩) hb3).trans (by rw [hce, ht, htt])⟩)
      rw [← htt] at HE
      rw [← hX] at hql hlm
      rw [← HKK.out] at hp
      have hp' : (p : Int) < (K : Int) := by omega
      have hp0 : ¬ (p : Int) < 0 := by omega
      have hpk : ¬ (K : Int) ≤ (p : Int) := by omega
      have hql' : (q : Int) < (X : Int) := by omega
      have hc' : (c : Int) < 256 := by omega
      clear ho hz hX htt hl hq ht hr hrw hce hb1' hb3 hlc
      go_enter Try.func12, Try.ntmps12
      go_upto_region 1 with fail
      rw [← hw1]
      clear hw1
      go_wp2_with (go_at_call 10; refine HR.out.mono ?_; rintro e w2 h2; obtain ⟨rfl, k2⟩ := h2.yes HO.out; have K2 := Lib.hid k2; have d1 := HD1.out _ k2; obtain ⟨d0, e1, e2⟩ := HC.out _ k2; clear h2 k2 hb1)
      go_quiet (fail)
      go_wp2
      go_ret
      exact ⟨by rw [HE.out]; rfl, grows B1.out (grows K2.out (below_draws _ _))⟩
    · have HE := Lib.hid (stpI_out (c := c) hz)
      by_cases hz0 : z < 0
      · clear ho hz hc
        go_enter Try.func12, Try.ntmps12
        go_upto_region 1 with fail
        rw [← hw1]
        clear hw1
        go_wp2_with (go_at_call 10; refine HR.out.mono ?_; rintro e w2 h2; obtain ⟨rfl, k2⟩ := h2.yes HO.out; have K2 := Lib.hid k2; have d1 := HD1.out _ k2; clear h2 k2 hb1)
        go_ret
        exact ⟨by rw [HE.out]; rfl, grows B1.out K2.out⟩
      · have hzk : (K : Int) ≤ z := by
          by_cases h : z < (K : Int)
          · exact absurd ⟨by omega, by rw [← HKK.out]; exact h⟩ hz
          · omega
        clear ho hz hc
        go_enter Try.func12, Try.ntmps12
        go_upto_region 1 with fail
        rw [← hw1]
        clear hw1
        go_wp2_with (go_at_call 10; refine HR.out.mono ?_; rintro e w2 h2; obtain ⟨rfl, k2⟩ := h2.yes HO.out; have K2 := Lib.hid k2; have d1 := HD1.out _ k2; clear h2 k2 hb1)
        go_ret
        exact ⟨by rw [HE.out]; rfl, grows B1.out K2.out⟩
  · have HO := Lib.hid ho
    have HE := Lib.hid (stpI_bad (z := z) (c := c) ho)
    clear ho hc
    go_enter Try.func12, Try.ntmps12
    go_upto_region 1 with fail
    rw [← hw1]
    clear hw1
    go_wp2_with (go_at_call 10; refine HR.out.mono ?_; rintro e w2 h2; obtain ⟨rfl, k2⟩ := h2.no HO.out; have K2 := Lib.hid k2; clear h2 k2 hb1)
    go_ret
    exact ⟨by rw [HE.out]; rfl, grows B1.out K2.out⟩
set_option maxHeartbeats 2000000 in
set_option maxRecDepth 100000 in
theorem rRun_any {w : World} {V : Array Value} {D : Df} {s : ByteArray} (hs : s.size ≤ 9223372036854775807) (H : Hid (dfa w V D)) :
    Calls Try.prog 14 #[.agg V, .string s] w fun e w' => e = .returned (.int .i64 (runI D (nbs s))) ∧ Below w.heap.size w w' := by
  obtain ⟨A1, c1, A2, c2, HH⟩ := H.out
  have HH := Lib.hid HH
  obtain ⟨w1, hw1⟩ : ∃ w1, w1 = w.alloc (.cells V 26) := ⟨_, rfl⟩
  have B1 : Hid (Below w.heap.size w w1) := Lib.hid (by rw [hw1]; exact below_alloc _ _)
  have K1 : Hid (Blk w1 w.heap.size 26 V) := Lib.hid (by rw [hw1]; exact Blk.fresh _ _ _)
  obtain ⟨N, hsz, hld⟩ := load_dfa (g := w.heap.size) HH.out.size
  have HR := Lib.hid (rRight_any (Lib.hid (H.out.below B1.out)))
  have hb1 := K1.out
  obtain ⟨SB, hSB⟩ : ∃ SB, SB = nbs s := ⟨_, rfl⟩
  have HSB := Lib.hid hSB
  rw [← hSB]
  clear hSB
  by_cases ho : okD D
  · have HO := Lib.hid ho
    have HE := Lib.hid (runI_yes (s := SB) ho)
    have hk1 : 0 < D.nx.length := ho.k1
    have HK1 := Lib.hid hk1
    clear ho hk1
    go_enter Try.func14, Try.ntmps14
    go_upto_region 1 with fail
    rw [← hw1]
    clear hw1
    go_wp2_with (go_at_call 10; refine HR.out.mono ?_; rintro e w2 h2; obtain ⟨rfl, k2⟩ := h2.yes HO.out; have K2 := Lib.hid k2; clear h2 k2 hb1)
    clear hsz hld
    go_loopw [6, 5] (fun s6 s5 wr => ∃ i p : Nat, s6 = .int .i64 (i : Int) ∧ s5 = .int .i64 (p : Int) ∧ i ≤ s.size ∧ Hid (p = gos D 0 (SB.take i)) ∧ Hid (Below w1.heap.size w1 wr)) (fun s6 _ _ => s.size - (intOf s6).toNat)
    case atStart => exact ⟨0, 0, rfl, rfl, by omega, Lib.hid rfl, K2⟩
    case round =>
      obtain ⟨i, p, rfl, rfl, hi, HP, HB⟩ := hrel
      by_cases hin : i < s.size
      · have hin' : (i : Int) < (s.size : Int) := by omega
        have hi0 : (0 : Int) ≤ (i : Int) := by omega
        have HIN := Lib.hid hin
        obtain ⟨c, hcc⟩ : ∃ c, c = (s[i]'hin).toNat := ⟨_, rfl⟩
        have hgb : ((s[i]'hin).toNat : Int) = (c : Int) := by rw [hcc]
        have hp : p < D.nx.length := by rw [HP.out]; exact HO.out.gos_lt _ HK1.out (fun d hd => by rw [HSB.out] at hd; exact nbs_lt d (List.mem_of_mem_take hd))
        have hc9 : c < 256 := by rw [hcc]; exact UInt8.toNat_lt _
        have HNX : Hid (tq D p c = gos D 0 (SB.take (i + 1))) := Lib.hid (by rw [HSB.out, nbs_take hin, gos_snoc, ← HSB.out, ← HP.out, hcc])
        have HBW := Lib.hid (grows B1.out HB.out)
        obtain ⟨l, q, hl, hq, hql, ht, _⟩ := okD_way HO.out hp hc9
        obtain ⟨b1, o1, rfl, hb1', A', c', hrw, hlc, hlm, hr⟩ := (HH.out.n.below HBW.out) p l hl
        obtain ⟨b3, o3, rfl, hb3, hce⟩ := hr q hql
        obtain ⟨X, hX⟩ : ∃ X, X = l.length := ⟨_, rfl⟩
        obtain ⟨K, hK⟩ : ∃ K, K = D.nx.length := ⟨_, rfl⟩
        obtain ⟨t, htt⟩ : ∃ t, t = tq D p c := ⟨_, rfl⟩
        have d1 : wr.cell? ⟨w.heap.size, 256, none⟩ = some (.slice (some ⟨b1, o1, none⟩) K c1) := ((K1.out.below HB.out).cell 256).trans (by rw [hK]; exact HH.out.vn)
        have d0 : wr.cell? ⟨w.heap.size, c, none⟩ = some (.int .i64 (q : Int)) := ((K1.out.below HB.out).cell c).trans (by rw [HH.out.vc hc9, hq])
        rw [ht, ← htt] at hce
        rw [← htt] at HNX
        rw [← hX] at hrw hql hlm
        rw [← hK] at hp
        have hp' : (p : Int) < (K : Int) := by omega
        have hql' : (q : Int) < (X : Int) := by omega
        have hc' : (c : Int) < 256 := by omega
        clear hcc hX hK htt hl hq ht hr hb1' hb3 hlc
        go_wp2
        go_quiet (fail)
        go_wp2
        have hin := HIN.out
        go_roundw
        case rel => exact ⟨i + 1, t, by go_num, rfl, by omega, HNX, Lib.hid (grows HB.out (below_draws _ _))⟩
        case measure => simp [intOf]; omega
      · have hin' : ¬ (i : Int) < (s.size : Int) := by omega
        have HG : Hid (p = gos D 0 SB) := Lib.hid (by rw [HP.out, List.take_of_length_le (by rw [HSB.out, nbs_len]; omega)])
        clear hin hi
        go_wp2
        go_ret
        exact ⟨by rw [HE.out, ← HG.out]; rfl, grows B1.out HB.out⟩
  · have HO := Lib.hid ho
    have HE := Lib.hid (runI_bad (s := SB) ho)
    clear ho
    go_enter Try.func14, Try.ntmps14
    go_upto_region 1 with fail
    rw [← hw1]
    clear hw1
    go_wp2_with (go_at_call 10; refine HR.out.mono ?_; rintro e w2 h2; obtain ⟨rfl, k2⟩ := h2.no HO.out; have K2 := Lib.hid k2; clear h2 k2 hb1)
    go_ret
    exact ⟨by rw [HE.out]; rfl, grows B1.out K2.out⟩
set_option maxHeartbeats 2000000 in
set_option maxRecDepth 100000 in
theorem rAfter_any {w : World} {V : Array Value} {D : Df} {s : ByteArray} (hs : s.size ≤ 9223372036854775807) (H : Hid (dfa w V D)) :
    Calls Try.prog 16 #[.agg V, .string s] w fun e w' => e = .returned (.int .i64 (aftI D (nbs s))) ∧ Below w.heap.size w w' := by
  obtain ⟨A1, c1, A2, c2, HH⟩ := H.out
  have HH := Lib.hid HH
  obtain ⟨w1, hw1⟩ : ∃ w1, w1 = w.alloc (.cells V 26) := ⟨_, rfl⟩
  have B1 : Hid (Below w.heap.size w w1) := Lib.hid (by rw [hw1]; exact below_alloc _ _)
  have K1 : Hid (Blk w1 w.heap.size 26 V) := Lib.hid (by rw [hw1]; exact Blk.fresh _ _ _)
  obtain ⟨N, hsz, hld⟩ := load_dfa (g := w.heap.size) HH.out.size
  have HR := Lib.hid (rRight_any (Lib.hid (H.out.below B1.out)))
  have HU : Hid (∀ u, Below w1.heap.size w1 u → Calls Try.prog 14 #[.agg V, .string s] u fun e w' => e = .returned (.int .i64 (runI D (nbs s))) ∧ Below u.heap.size u w') := Lib.hid (fun u k => rRun_any hs (Lib.hid (H.out.below (grows B1.out k))))
  have hb1 := K1.out
  obtain ⟨SB, hSB⟩ : ∃ SB, SB = nbs s := ⟨_, rfl⟩
  have HSB := Lib.hid hSB
  rw [← hSB] at HU ⊢
  clear hSB hs
  by_cases ho : okD D
  · have HO := Lib.hid ho
    have HE := Lib.hid (aftI_yes (s := SB) ho)
    have hp : gos D 0 SB < D.nx.length := ho.gos_lt _ ho.k1 (fun d hd => by rw [HSB.out] at hd; exact nbs_lt d hd)
    have hpr : gos D 0 SB < D.ru.length := by rw [ho.r]; exact hp
    have hrm : D.ru.length ≤ 9223372036854775807 := HH.out.m
    rw [runI_yes ho] at HU
    obtain ⟨p, hpp⟩ : ∃ p, p = gos D 0 SB := ⟨_, rfl⟩
    obtain ⟨b, o, rfl, hb, hc⟩ := HH.out.r p (by rw [hpp]; exact hpr)
    obtain ⟨r, hr⟩ : ∃ r, r = at' D.ru p := ⟨_, rfl⟩
    have HRP : Hid (at' D.ru (gos D 0 SB) = r) := Lib.hid (by rw [hr, hpp])
    rw [← hpp] at HU hpr
    rw [← hr] at hc
    obtain ⟨M, hM⟩ : ∃ M, M = D.ru.length := ⟨_, rfl⟩
    have HD : Hid (∀ u, Below w1.heap.size w1 u → Blk u w.heap.size 26 V ∧ u.cell? ⟨w.heap.size, 257, none⟩ = some (.slice (some ⟨b, o, none⟩) M c2) ∧ u.cell? ⟨b, o + p, none⟩ = some (.int .i64 r)) := Lib.hid (fun u k => ⟨K1.out.below k, ((K1.out.below k).cell 257).trans (by rw [hM]; exact HH.out.vr), ((grows B1.out k).cell (p := ⟨b, o + p, none⟩) hb).trans hc⟩)
    rw [← hM] at hpr hrm
    have hp0 : (0 : Int) ≤ (p : Int) := by omega
    have hp1 : (p : Int) < (M : Int) := by omega
    clear ho hp hpp hr hb hc hM
    go_enter Try.func16, Try.ntmps16
    go_upto_region 1 with fail
    rw [← hw1]
    clear hw1
    go_wp2_with (go_at_call 10; refine HR.out.mono ?_; rintro e w2 h2; obtain ⟨rfl, k2⟩ := h2.yes HO.out; have K2 := Lib.hid (below_drew k2); clear h2 k2 hb1)
    go_region_held3 (fun w' => Blk w' w.heap.size 26 V ∧ w'.cell? ⟨w.heap.size, 257, none⟩ = some (.slice (some ⟨b, o, none⟩) M c2) ∧ w'.cell? ⟨b, o + p, none⟩ = some (.int .i64 r))
      (first | exact HD.out _ K2.out | exact HD.out _ K3.out)
      ((go_at_call 14; refine (HU.out _ K2.out).mono ?_; rintro e w3 ⟨rfl, k3⟩; have K3 := Lib.hid (grows K2.out k3); clear k3))
    clear hsz hld
    go_wp2
    go_ret
    exact ⟨by rw [HE.out, HRP.out]; rfl, grows B1.out K3.out⟩
  · have HO := Lib.hid ho
    have HE := Lib.hid (aftI_bad (s := SB) ho)
    clear ho
    go_enter Try.func16, Try.ntmps16
    go_upto_region 1 with fail
    rw [← hw1]
    clear hw1
    go_wp2_with (go_at_call 10; refine HR.out.mono ?_; rintro e w2 h2; obtain ⟨rfl, k2⟩ := h2.no HO.out; have K2 := Lib.hid k2; clear h2 k2 hb1)
    go_ret
    exact ⟨by rw [HE.out]; rfl, grows B1.out K2.out⟩
end Go.Proofs.Ytfipagndpoahlaa.Uh
