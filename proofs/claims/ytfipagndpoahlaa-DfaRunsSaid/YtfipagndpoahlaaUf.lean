/-
  Step, Run and After of layer 18.
  Conditions: a text of at most 2^63 - 1 bytes.
-/
import Derived.Test.YtfipagndpoahlaaUe
import Derived.PlainAid
namespace Go.Proofs.Ytfipagndpoahlaa.Uf
open Go.RowKit Go.PlainAid Go.Proofs.Ytfipagndpoahlaa.Bw Go.Proofs.Ytfipagndpoahlaa.Na Go.Proofs.Ytfipagndpoahlaa.Ko Go.Proofs.Ytfipagndpoahlaa.Ua Go.Proofs.Ytfipagndpoahlaa.Ub Go.Proofs.Ytfipagndpoahlaa.Uc Go.Proofs.Ytfipagndpoahlaa.Ud Go.Proofs.Ytfipagndpoahlaa.Ue

open Classical in
/-- What Step answers. -/
noncomputable def stpI (D : Df) (z : Int) (c : Nat) : Int := if okD D ∧ inS D z then ((tq D z.toNat c : Nat) : Int) else -1
open Classical in
/-- What Run answers. -/
noncomputable def runI (D : Df) (s : List Nat) : Int := if okD D then ((gos D 0 s : Nat) : Int) else -1
open Classical in
/-- What After answers. -/
noncomputable def aftI (D : Df) (s : List Nat) : Int := if okD D then at' D.ru (gos D 0 s) else -1
theorem stpI_yes {D : Df} {p c : Nat} (h : okD D) (hp : p < D.nx.length) : stpI D (p : Int) c = ((tq D p c : Nat) : Int) := by
  unfold stpI; rw [if_pos ⟨h, by omega, by omega⟩]; rfl
theorem stpI_bad {D : Df} {z : Int} {c : Nat} (h : ¬ okD D) : stpI D z c = -1 := by unfold stpI; rw [if_neg (fun k => h k.1)]
theorem stpI_out {D : Df} {z : Int} {c : Nat} (h : ¬ inS D z) : stpI D z c = -1 := by unfold stpI; rw [if_neg (fun k => h k.2)]
theorem runI_yes {D : Df} {s : List Nat} (h : okD D) : runI D s = ((gos D 0 s : Nat) : Int) := by unfold runI; rw [if_pos h]
theorem runI_bad {D : Df} {s : List Nat} (h : ¬ okD D) : runI D s = -1 := by unfold runI; rw [if_neg h]
theorem aftI_yes {D : Df} {s : List Nat} (h : okD D) : aftI D s = at' D.ru (gos D 0 s) := by unfold aftI; rw [if_pos h]
theorem aftI_bad {D : Df} {s : List Nat} (h : ¬ okD D) : aftI D s = -1 := by unfold aftI; rw [if_neg h]
/-- A string's bytes as numbers. -/
def nbs (s : ByteArray) : List Nat := s.data.toList.map (·.toNat)
theorem nbs_len (s : ByteArray) : (nbs s).length = s.size := by unfold nbs; rw [List.length_map, Array.length_toList]; rfl
theorem nbs_get {s : ByteArray} {k : Nat} (h : k < s.size) : (nbs s)[k]? = some (s[k]'h).toNat := by
  unfold nbs
  rw [List.getElem?_map, Array.getElem?_toList]
  have : s.data[k]? = some (s[k]'h) := Array.getElem?_eq_getElem h
  rw [this]; rfl
theorem nbs_take {s : ByteArray} {k : Nat} (h : k < s.size) : (nbs s).take (k + 1) = (nbs s).take k ++ [(s[k]'h).toNat] := by
  rw [List.take_add_one, nbs_get h]; rfl
theorem nbs_lt {s : ByteArray} : ∀ c ∈ nbs s, c < 256 := fun c hc => by
  unfold nbs at hc
  obtain ⟨b, _, rfl⟩ := List.mem_map.1 hc
  exact UInt8.toNat_lt b
set_option maxHeartbeats 2000000 in
set_option maxRecDepth 100000 in
theorem Step_any {w : World} {V : Array Value} {D : Df} {c : Nat} (z : Int) (hc : c < 256) (H : Hid (dfa w V D)) :
    Calls Try.prog 11 #[.agg V, .int .i64 z, .int .u8 (c : Int)] w fun e w' => e = .returned (.int .i64 (stpI D z c)) ∧ Below w.heap.size w w' := by
  have hsz9 : V.size = 258 := by
    obtain ⟨A1, c1, A2, c2, h⟩ := H.out
    exact h.size
  obtain ⟨w1, hw1⟩ : ∃ w1, w1 = w.alloc (.cells V 26) := ⟨_, rfl⟩
  have B1 : Hid (Below w.heap.size w w1) := Lib.hid (by rw [hw1]; exact below_alloc _ _)
  have K1 : Hid (Blk w1 w.heap.size 26 V) := Lib.hid (by rw [hw1]; exact Blk.fresh _ _ _)
  obtain ⟨N, hsz, hld⟩ := load_dfa (g := w.heap.size) hsz9
  have HR := Lib.hid (Right_any (Lib.hid (H.out.below B1.out)))
  have HS : Hid (∀ u, Below w1.heap.size w1 u → Calls Try.prog 26 #[.agg V, .int .i64 z] u fun e w' => ansB (inS D z) u e w') := Lib.hid (fun u k => isState_any z (Lib.hid (H.out.below (grows B1.out k))))
  have hb1 := K1.out
  clear hsz9
  by_cases ho : okD D
  · have HO := Lib.hid ho
    by_cases hz : inS D z
    · obtain ⟨p, rfl⟩ := Int.eq_ofNat_of_zero_le hz.1
      have hp : p < D.nx.length := by have := hz.2; omega
      have HZ := Lib.hid hz
      have HST : Hid (∀ u, Below w1.heap.size w1 u → Calls Try.prog 27 #[.agg V, .int .i64 (p : Int), .int .u8 (c : Int)] u fun e w' => e = .returned (.int .i64 (tq D p c : Nat)) ∧ Below u.heap.size u w') := Lib.hid (fun u k => step_any ho hp hc (Lib.hid (H.out.below (grows B1.out k))))
      have HE := Lib.hid (stpI_yes (c := c) ho hp)
      clear ho hz hp hc
      go_enter Try.func11, Try.ntmps11
      go_upto_region 1 with fail
      rw [← hw1]
      clear hw1
      go_wp2_with (first | (go_at_call 9; refine HR.out.mono ?_; rintro e w2 h2; obtain ⟨rfl, k2⟩ := h2.yes HO.out; have K2 := Lib.hid k2; have hb2 := K1.out.below k2; clear h2 k2 hb1) | (go_at_call 26; refine (HS.out _ K2.out).mono ?_; rintro e w3 h3; obtain ⟨rfl, k3⟩ := h3.yes HZ.out; have K3 := Lib.hid (grows K2.out k3); have hb3 := K1.out.below K3.out; clear h3 k3 hb2) | (go_at_call 27; refine (HST.out _ K3.out).mono ?_; rintro e w4 ⟨rfl, k4⟩; have K4 := Lib.hid (grows K3.out k4); clear k4))
      go_ret
      exact ⟨by rw [HE.out]; rfl, grows B1.out K4.out⟩
    · have HZ := Lib.hid hz
      have HE := Lib.hid (stpI_out (c := c) hz)
      clear ho hz hc
      go_enter Try.func11, Try.ntmps11
      go_upto_region 1 with fail
      rw [← hw1]
      clear hw1
      go_wp2_with (first | (go_at_call 9; refine HR.out.mono ?_; rintro e w2 h2; obtain ⟨rfl, k2⟩ := h2.yes HO.out; have K2 := Lib.hid k2; have hb2 := K1.out.below k2; clear h2 k2 hb1) | (go_at_call 26; refine (HS.out _ K2.out).mono ?_; rintro e w3 h3; obtain ⟨rfl, k3⟩ := h3.no HZ.out; have K3 := Lib.hid (grows K2.out k3); clear h3 k3 hb2))
      go_ret
      exact ⟨by rw [HE.out]; rfl, grows B1.out K3.out⟩
  · have HO := Lib.hid ho
    have HE := Lib.hid (stpI_bad (z := z) (c := c) ho)
    clear ho hc
    go_enter Try.func11, Try.ntmps11
    go_upto_region 1 with fail
    rw [← hw1]
    clear hw1
    go_wp2_with (go_at_call 9; refine HR.out.mono ?_; rintro e w2 h2; obtain ⟨rfl, k2⟩ := h2.no HO.out; have K2 := Lib.hid k2; clear h2 k2 hb1)
    go_ret
    exact ⟨by rw [HE.out]; rfl, grows B1.out K2.out⟩
set_option maxHeartbeats 2000000 in
set_option maxRecDepth 100000 in
theorem Run_any {w : World} {V : Array Value} {D : Df} {s : ByteArray} (hs : s.size ≤ 9223372036854775807) (H : Hid (dfa w V D)) :
    Calls Try.prog 13 #[.agg V, .string s] w fun e w' => e = .returned (.int .i64 (runI D (nbs s))) ∧ Below w.heap.size w w' := by
  have hsz9 : V.size = 258 := by
    obtain ⟨A1, c1, A2, c2, h⟩ := H.out
    exact h.size
  obtain ⟨w1, hw1⟩ : ∃ w1, w1 = w.alloc (.cells V 26) := ⟨_, rfl⟩
  have B1 : Hid (Below w.heap.size w w1) := Lib.hid (by rw [hw1]; exact below_alloc _ _)
  have K1 : Hid (Blk w1 w.heap.size 26 V) := Lib.hid (by rw [hw1]; exact Blk.fresh _ _ _)
  obtain ⟨N, hsz, hld⟩ := load_dfa (g := w.heap.size) hsz9
  have HR := Lib.hid (Right_any (Lib.hid (H.out.below B1.out)))
  have hb1 := K1.out
  obtain ⟨SB, hSB⟩ : ∃ SB, SB = nbs s := ⟨_, rfl⟩
  have HSB := Lib.hid hSB
  rw [← hSB]
  clear hsz9 hSB
  by_cases ho : okD D
  · have HO := Lib.hid ho
    have HE := Lib.hid (runI_yes (s := SB) ho)
    have hk1 : 0 < D.nx.length := ho.k1
    have HK1 := Lib.hid hk1
    clear ho hk1
    go_enter Try.func13, Try.ntmps13
    go_upto_region 1 with fail
    rw [← hw1]
    clear hw1
    go_wp2_with (go_at_call 9; refine HR.out.mono ?_; rintro e w2 h2; obtain ⟨rfl, k2⟩ := h2.yes HO.out; have K2 := Lib.hid k2; clear h2 k2 hb1)
    go_loopw [12, 5, 6] (fun s12 s5 _ wr => ∃ i p : Nat, s12 = .int .i64 (i : Int) ∧ s5 = .int .i64 (p : Int) ∧ i ≤ s.size ∧ Hid (p = gos D 0 (SB.take i)) ∧ Hid (Below w1.heap.size w1 wr)) (fun s12 _ _ _ => s.size - (intOf s12).toNat)
    case atStart => exact ⟨0, 0, rfl, rfl, by omega, Lib.hid rfl, K2⟩
    case round =>
      obtain ⟨i, p, rfl, rfl, hi, HP, HB⟩ := hrel
      by_cases hin : i < s.size
      · have hin' : (i : Int) < (s.size : Int) := by omega
        have hi0 : (0 : Int) ≤ (i : Int) := by omega
        have HIN := Lib.hid hin
        obtain ⟨c, hcc⟩ : ∃ c, c = (s[i]'hin).toNat := ⟨_, rfl⟩
        have hbt : (s[i]'hin) = UInt8.ofNat c := by rw [hcc]; simp
        have hgb : ((s[i]'hin).toNat : Int) = (c : Int) := by rw [hcc]
        have hp : p < D.nx.length := by rw [HP.out]; exact HO.out.gos_lt _ HK1.out (fun d hd => by rw [HSB.out] at hd; exact nbs_lt d (List.mem_of_mem_take hd))
        have hc9 : c < 256 := by rw [hcc]; exact UInt8.toNat_lt _
        have HST := Lib.hid (step_any HO.out hp hc9 (Lib.hid (H.out.below (grows B1.out (below_drew HB.out)))))
        have HNX : Hid (tq D p c = gos D 0 (SB.take (i + 1))) := Lib.hid (by rw [HSB.out, nbs_take hin, gos_snoc, ← HSB.out, ← HP.out, hcc])
        clear hcc hp hc9 hbt
        go_wp2
        go_region_held3 (fun w' => Blk w' w.heap.size 26 V)
          (first | exact K1.out.below (below_drew HB.out) | exact hz2)
          ((go_at_call 27; refine HST.out.mono ?_; rintro e w3 ⟨rfl, k3⟩; have K3 := Lib.hid (grows HB.out (grows (below_draws _ 1) k3)); have hz2 := K1.out.below K3.out; clear k3))
        go_wp2
        go_roundw
        case rel => exact ⟨i + 1, tq D p c, by go_num, rfl, by have := HIN.out; omega, HNX, K3⟩
        case measure => have := HIN.out; simp [intOf]; omega
      · have hin' : ¬ (i : Int) < (s.size : Int) := by omega
        have HG : Hid (p = gos D 0 SB) := Lib.hid (by rw [HP.out, List.take_of_length_le (by rw [HSB.out, nbs_len]; omega)])
        clear hin hi
        go_wp2
        go_ret
        exact ⟨by rw [HE.out, ← HG.out]; rfl, grows B1.out HB.out⟩
  · have HO := Lib.hid ho
    have HE := Lib.hid (runI_bad (s := SB) ho)
    clear ho
    go_enter Try.func13, Try.ntmps13
    go_upto_region 1 with fail
    rw [← hw1]
    clear hw1
    go_wp2_with (go_at_call 9; refine HR.out.mono ?_; rintro e w2 h2; obtain ⟨rfl, k2⟩ := h2.no HO.out; have K2 := Lib.hid k2; clear h2 k2 hb1)
    go_ret
    exact ⟨by rw [HE.out]; rfl, grows B1.out K2.out⟩
set_option maxHeartbeats 2000000 in
set_option maxRecDepth 100000 in
theorem After_any {w : World} {V : Array Value} {D : Df} {s : ByteArray} (hs : s.size ≤ 9223372036854775807) (H : Hid (dfa w V D)) :
    Calls Try.prog 15 #[.agg V, .string s] w fun e w' => e = .returned (.int .i64 (aftI D (nbs s))) ∧ Below w.heap.size w w' := by
  obtain ⟨A1, c1, A2, c2, HH⟩ := H.out
  have HH := Lib.hid HH
  obtain ⟨w1, hw1⟩ : ∃ w1, w1 = w.alloc (.cells V 26) := ⟨_, rfl⟩
  have B1 : Hid (Below w.heap.size w w1) := Lib.hid (by rw [hw1]; exact below_alloc _ _)
  have K1 : Hid (Blk w1 w.heap.size 26 V) := Lib.hid (by rw [hw1]; exact Blk.fresh _ _ _)
  obtain ⟨N, hsz, hld⟩ := load_dfa (g := w.heap.size) HH.out.size
  have HR := Lib.hid (Run_any hs (Lib.hid (H.out.below B1.out)))
  have hb1 := K1.out
  obtain ⟨SB, hSB⟩ : ∃ SB, SB = nbs s := ⟨_, rfl⟩
  have HSB := Lib.hid hSB
  rw [← hSB] at HR ⊢
  clear hSB hs
  by_cases ho : okD D
  · have HE := Lib.hid (aftI_yes (s := SB) ho)
    have hp : gos D 0 SB < D.nx.length := ho.gos_lt _ ho.k1 (fun d hd => by rw [HSB.out] at hd; exact nbs_lt d hd)
    have hpr : gos D 0 SB < D.ru.length := by rw [ho.r]; exact hp
    have hrm : D.ru.length ≤ 9223372036854775807 := HH.out.m
    rw [runI_yes ho] at HR
    obtain ⟨p, hpp⟩ : ∃ p, p = gos D 0 SB := ⟨_, rfl⟩
    obtain ⟨b, o, rfl, hb, hc⟩ := HH.out.r p (by rw [hpp]; exact hpr)
    obtain ⟨r, hr⟩ : ∃ r, r = at' D.ru p := ⟨_, rfl⟩
    have HRP : Hid (at' D.ru (gos D 0 SB) = r) := Lib.hid (by rw [hr, hpp])
    rw [← hpp] at HR hpr
    rw [← hr] at hc
    obtain ⟨M, hM⟩ : ∃ M, M = D.ru.length := ⟨_, rfl⟩
    have HD : Hid (∀ u, Below w1.heap.size w1 u → u.cell? ⟨w.heap.size, 257, none⟩ = some (.slice (some ⟨b, o, none⟩) M c2) ∧ u.cell? ⟨b, o + p, none⟩ = some (.int .i64 r)) := Lib.hid (fun u k => ⟨((K1.out.below k).cell 257).trans (by rw [hM]; exact HH.out.vr), ((grows B1.out k).cell (p := ⟨b, o + p, none⟩) hb).trans hc⟩)
    rw [← hM] at hpr hrm
    have hp0 : ¬ (p : Int) = -1 := by omega
    have hp1 : (p : Int) < (M : Int) := by omega
    clear ho hp hpp hr hb hc hM
    go_enter Try.func15, Try.ntmps15
    go_upto_region 1 with fail
    rw [← hw1]
    clear hw1
    go_wp2_with (go_at_call 13; refine HR.out.mono ?_; rintro e w2 ⟨rfl, k2⟩; have K2 := Lib.hid k2; obtain ⟨d1, d2⟩ := HD.out _ k2; clear k2 hb1)
    go_ret
    exact ⟨by rw [HE.out, HRP.out]; rfl, grows B1.out K2.out⟩
  · have HE := Lib.hid (aftI_bad (s := SB) ho)
    rw [runI_bad ho] at HR
    clear ho
    go_enter Try.func15, Try.ntmps15
    go_upto_region 1 with fail
    rw [← hw1]
    clear hw1
    go_wp2_with (go_at_call 13; refine HR.out.mono ?_; rintro e w2 ⟨rfl, k2⟩; have K2 := Lib.hid k2; clear k2 hb1)
    go_ret
    exact ⟨by rw [HE.out]; rfl, grows B1.out K2.out⟩
end Go.Proofs.Ytfipagndpoahlaa.Uf
