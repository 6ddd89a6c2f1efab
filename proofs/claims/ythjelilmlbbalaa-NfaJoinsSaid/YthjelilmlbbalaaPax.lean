/-
  The program's Size and check (layer 17).
  Make, in lists and in memory (layer 17): what the steps of its loop leave.
  The program's Make (layer 17).
  Layer 17's known() in lists: the trees of "b" and "a|b", their sizes, which of them match the three texts; rows of a made automaton are short.
  Conditions: as each theorem says.
-/
import Derived.Test.YthjelilmlbbalaaPar
import Derived.Test.YthjelilmlbbalaaPaw
import Derived.Test.YthjelilmlbbalaaPal
import Derived.Test.YthjelilmlbbalaaPan
import Derived.Test.YthjelilmlbbalaaPap
namespace Go.Proofs.Ythjelilmlbbalaa.Du
open Go.RowKit Go.Proofs.Ythjelilmlbbalaa.Bw Go.Proofs.Ythjelilmlbbalaa.Na Go.Proofs.Ythjelilmlbbalaa.Tm Go.Proofs.Ythjelilmlbbalaa.Rm Go.Proofs.Ythjelilmlbbalaa.Rv Go.Proofs.Ythjelilmlbbalaa.Ra Go.Proofs.Ythjelilmlbbalaa.Rf Go.Proofs.Ythjelilmlbbalaa.Rg Go.Proofs.Ythjelilmlbbalaa.Rn Go.Proofs.Ythjelilmlbbalaa.Ap Go.Proofs.Ythjelilmlbbalaa.Aj Go.Proofs.Ythjelilmlbbalaa.Ay Go.Proofs.Ythjelilmlbbalaa.Ak Go.Proofs.Ythjelilmlbbalaa.Ed Go.Proofs.Ythjelilmlbbalaa.Dt

mutual
theorem szQ_pos : ∀ t : T, okT t → 2 ≤ szQ t
  | .set _, _ => by simp [szQ]
  | .emp, _ => by simp [szQ]
  | .cat l, h => by unfold okT at h; unfold szQ; have := szS_pos l h.2; omega
  | .alt l, h => by unfold szQ; omega
  | .star t, _ => by unfold szQ; omega
  | .plus t, _ => by unfold szQ; omega
  | .opt t, _ => by unfold szQ; omega
  | .rep lo hi t, _ => by unfold szQ; omega
theorem szS_pos : ∀ l : List T, okTs l → 2 * l.length ≤ szS l
  | [], _ => by simp
  | t :: l, h => by
    unfold okTs at h
    have h1 := szQ_pos t h.1
    have h2 := szS_pos l h.2
    unfold szS
    rw [List.length_cons]
    omega
end
theorem szL_zero {w : World} {A : Option Addr} {l : List Nd} (h : nds w A l) : (checkI l = 0 → 2 ≤ szL l) ∧ (checkI l ≠ 0 → szL l = 0) := by
  constructor
  · intro h0
    have ht := (check_isT h).1 h0
    unfold szL
    rw [dif_pos ht]
    exact szQ_pos _ ht.choose_spec.1
  · intro h0
    unfold szL
    rw [dif_neg (fun k => h0 ((check_isT h).2 k))]
set_option maxRecDepth 100000 in
theorem Size_any {A : Option Addr} {cap : Nat} {l : List Nd} (hl : l.length ≤ 1000000) (hcap : l.length ≤ cap) {w : World} (H : Hid (nds w A l)) :
    Calls Try.prog 11 #[.slice A l.length cap] w fun e w' => e = .returned (.int .i64 (szL l : Int)) ∧ Below w.heap.size w w' := by
  have HC := Lib.hid (Ec.Check_any (cap := cap) hl H)
  rcases check_two l with h0 | h4
  · have ht := (check_isT H.out).1 h0
    have hz : szL l = szQ ht.choose := by unfold szL; rw [dif_pos ht]
    obtain ⟨h1, h2, h3⟩ := ht.choose_spec
    have HE : Hid (∀ w', Below w.heap.size w w' → Calls Try.prog 32 #[.slice A l.length cap] w' fun e w'' => ∃ v', e = .returned (.tuple #[.int .i64 (szL l : Int), v']) ∧ Below w'.heap.size w' w'') := Lib.hid (fun w' k => by
      rw [hz]
      refine (size_all 400 ht.choose (by rw [← h2]; exact h3) (by omega) h1 [] _ w' (by rw [List.append_nil, ← h2]; exact hl) ⟨A, cap, by rw [List.append_nil, ← h2], by rw [List.append_nil, ← h2]; exact hcap, by rw [List.append_nil, ← h2]; exact H.out.below k⟩).mono ?_
      rintro e w2 ⟨v', rfl, _, k2⟩
      exact ⟨v', rfl, k2⟩)
    rw [h0] at HC
    obtain ⟨N, hN⟩ : ∃ N, N = l.length := ⟨_, rfl⟩
    obtain ⟨Z, hZ⟩ : ∃ Z : Int, Z = (szL l : Int) := ⟨_, rfl⟩
    rw [← hN] at HC HE ⊢
    rw [← hZ] at HE ⊢
    clear hN hZ hz h1 h2 h3 ht h0 hl hcap
    go_enter Try.func11, Try.ntmps11
    go_wp2_with (first | (go_at_call 31; refine HC.out.mono ?_; rintro e w9 ⟨rfl, k9⟩; have K9 := Lib.hid k9; have HE9 := Lib.hid (HE.out w9 k9); clear k9) | (go_at_call 32; refine HE9.out.mono ?_; rintro e w8 ⟨v8, rfl, k8⟩; have K8 := Lib.hid k8; clear k8))
    go_ret
    exact ⟨rfl, grows K9.out K8.out⟩
  · have hz : szL l = 0 := by
      unfold szL
      rw [dif_neg (fun k => by have := (check_isT H.out).2 k; omega)]
    rw [hz]
    rw [h4] at HC
    obtain ⟨N, hN⟩ : ∃ N, N = l.length := ⟨_, rfl⟩
    rw [← hN] at HC ⊢
    clear hN hz h4 hl hcap
    go_enter Try.func11, Try.ntmps11
    go_wp2_with (go_at_call 31; refine HC.out.mono ?_; rintro e w9 ⟨rfl, k9⟩; have K9 := Lib.hid k9; clear k9)
    go_ret
    exact ⟨rfl, K9.out⟩
set_option maxHeartbeats 2000000 in
set_option maxRecDepth 100000 in
theorem check_any {A : Option Addr} {cap : Nat} {L : List (List Nd)} (hL : L.length ≤ 1000000) (hl : ∀ l ∈ L, l.length ≤ 1000000) {w : World} (H : Hid (ndr w A L)) :
    Calls Try.prog 27 #[.slice A L.length cap] w fun e w' => e = .returned (.int .i64 (makesQ L).2) ∧ Below w.heap.size w w' := by
  have HLL := Lib.hid hl
  obtain ⟨N, hN⟩ : ∃ N, N = L.length := ⟨_, rfl⟩
  have HN := Lib.hid hN
  obtain ⟨R1, hR1⟩ : ∃ R1, R1 = (makesQ L).1 := ⟨_, rfl⟩
  obtain ⟨R2, hR2⟩ : ∃ R2, R2 = (makesQ L).2 := ⟨_, rfl⟩
  have H1 := Lib.hid hR1
  have H2 := Lib.hid hR2
  rw [← hN, ← hR2]
  rw [← hN] at hL
  clear hl hN hR1 hR2
  by_cases h0 : N = 0
  · have h0' : ((N : Int) == 0) = true := by simp [h0]
    have HQ : Hid (R1 = 0 ∧ R2 = 17) := Lib.hid (by rw [H1.out, H2.out]; unfold makesQ; rw [if_pos (by rw [← HN.out]; exact h0)]; exact ⟨rfl, rfl⟩)
    clear h0
    go_enter Try.func27, Try.ntmps27
    go_wp2
    go_ret
    exact ⟨by rw [HQ.out.2]; rfl, Below.refl _ _⟩
  · have h0' : ((N : Int) == 0) = false := by rw [beq_eq_false_iff_ne]; omega
    by_cases h3 : 32 < N
    · have h3' : (32 : Int) < (N : Int) := by omega
      have HQ : Hid (R1 = 0 ∧ R2 = 3) := Lib.hid (by rw [H1.out, H2.out]; unfold makesQ; rw [if_neg (by rw [← HN.out]; exact h0), if_pos (by rw [← HN.out]; exact h3)]; exact ⟨rfl, rfl⟩)
      clear h0 h3
      go_enter Try.func27, Try.ntmps27
      go_wp2
      go_ret
      exact ⟨by rw [HQ.out.2]; rfl, Below.refl _ _⟩
    · have h3' : ¬ (32 : Int) < (N : Int) := by omega
      have HC0 := Lib.hid h0
      have HC3 := Lib.hid h3
      clear h0
      go_enter Try.func27, Try.ntmps27
      go_wp2
      go_loopw [3, 5, 6, 15] (fun s4 _ _ s5 wr => ∃ i S : Nat, s4 = .int .i64 (S : Int) ∧ s5 = .int .i64 (i : Int) ∧ i ≤ N ∧ S ≤ 1000000 * 33 ∧ Hid (S = 1 + ((L.take i).map szL).sum) ∧ Hid (∀ a l, a < i → L[a]? = some l → checkI l = 0) ∧ Hid (Below w.heap.size w wr)) (fun _ _ _ s5 _ => N - (intOf s5).toNat)
      case atStart => exact ⟨0, 1, rfl, rfl, by omega, by omega, Lib.hid (by simp), Lib.hid (fun a l ha => absurd ha (by omega)), Lib.hid (Below.refl _ _)⟩
      case round =>
        obtain ⟨i, S, rfl, rfl, hi, hS, HS, HA, HB⟩ := hrel
        by_cases hiN : i < N
        · have hiN' : (i : Int) < (N : Int) := by omega
          have hi0 : (0 : Int) ≤ (i : Int) := by omega
          have HIN := Lib.hid hiN
          obtain ⟨l, hl⟩ : ∃ l, L[i]? = some l := ⟨_, List.getElem?_eq_getElem (by rw [← HN.out]; exact hiN)⟩
          have HL := Lib.hid hl
          have hll := HLL.out l (List.mem_of_getElem? hl)
          obtain ⟨b, off, rfl, hb, A', c', hrow, hcc, hnd⟩ := (H.out.below HB.out) i l hl
          have HND := Lib.hid hnd
          have HSZ : Hid (Calls Try.prog 11 #[.slice A' l.length c'] wr fun e w' => e = .returned (.int .i64 (szL l : Int)) ∧ Below wr.heap.size wr w') := Lib.hid (Size_any hll hcc HND)
          have HZZ := Lib.hid (szL_zero hnd)
          obtain ⟨X, hX⟩ : ∃ X, X = l.length := ⟨_, rfl⟩
          rw [← hX] at hrow HSZ
          have HRC := Lib.hid hrow
          have HBB := Lib.hid hb
          rcases check_two l with hc | hc
          · obtain ⟨z, hz⟩ : ∃ z, z = szL l := ⟨_, rfl⟩
            have hzb : z ≤ 1000000 := by rw [hz]; exact szL_le l
            have HNX : Hid (S + z = 1 + ((L.take (i + 1)).map szL).sum) := Lib.hid (by have h1 := sum_snoc (f := szL) hl; have h2 := HS.out; omega)
            have HNB : Hid (S + z ≤ 1000000 * 33) := Lib.hid (by
              have h1 := sum_le (f := szL) (B := 1000000) szL_le (L.take (i + 1))
              have h2 := HNX.out
              have h4 : (L.take (i + 1)).length ≤ 32 := by rw [List.length_take, ← HN.out]; omega
              have h5 : 1000000 * (L.take (i + 1)).length ≤ 1000000 * 32 := Nat.mul_le_mul_left _ h4
              omega)
            have HA' : Hid (∀ a l, a < i + 1 → L[a]? = some l → checkI l = 0) := Lib.hid (fun a l' ha hl' => by
              rcases (show a < i ∨ a = i by omega) with h | rfl
              · exact HA.out a l' h hl'
              · rw [HL.out] at hl'
                obtain rfl := Option.some.inj hl'
                exact hc)
            rw [← hz] at HSZ
            have hz2 : ((z : Int) == 0) = false := by have := HZZ.out.1 hc; rw [← hz] at this; rw [beq_eq_false_iff_ne]; omega
            clear hz hc hl hnd hX hll hiN hb h3 hcc
            go_wp2_with (go_at_call 11; refine HSZ.out.mono ?_; rintro e w8 ⟨rfl, k8⟩; have K8 := Lib.hid k8; clear k8)
            go_roundw
            case rel => exact ⟨i + 1, S + z, by go_num, by go_num, by have := HIN.out; omega, HNB.out, HNX, HA', Lib.hid (grows HB.out K8.out)⟩
            case measure => have := HIN.out; simp [intOf]; omega
          · have HQ : Hid (R1 = 0 ∧ R2 = 4) := Lib.hid (by
              rw [H1.out, H2.out]
              unfold makesQ
              rw [if_neg (by rw [← HN.out]; exact HC0.out), if_neg (by rw [← HN.out]; exact HC3.out), if_pos ⟨l, List.mem_of_getElem? hl, by rw [hc]; decide⟩]
              exact ⟨rfl, rfl⟩)
            have hz2 : szL l = 0 := HZZ.out.2 (by rw [hc]; decide)
            rw [hz2] at HSZ
            have HSZ0 : Hid (Calls Try.prog 11 #[.slice A' X c'] wr fun e w' => e = .returned (.int .i64 0) ∧ Below wr.heap.size wr w') := Lib.hid HSZ.out
            clear hc hl hnd hX hll hiN hb h3 hcc hz2
            go_wp2_with (go_at_call 11; refine HSZ0.out.mono ?_; rintro e w9 ⟨rfl, k9⟩; have K9 := Lib.hid k9; clear k9)
            go_ret
            exact ⟨by rw [HQ.out.2]; rfl, grows HB.out K9.out⟩
        · have hiN' : ¬ (i : Int) < (N : Int) := by omega
          have HSS : Hid (S = 1 + szSum L) := Lib.hid (by rw [HS.out, List.take_of_length_le (by rw [← HN.out]; omega)]; rfl)
          have HNO : Hid (¬ ∃ l ∈ L, checkI l ≠ 0) := Lib.hid (by
            rintro ⟨l, hl, hc⟩
            obtain ⟨a, ha⟩ := List.mem_iff_getElem?.1 hl
            exact hc (HA.out a l (by have := (List.getElem?_eq_some_iff.1 ha).1; have := HN.out; omega) ha))
          clear hiN h3
          by_cases hb : 3000 < S
          · have hb' : (3000 : Int) < (S : Int) := by omega
            have HQ : Hid (R1 = 0 ∧ R2 = 3) := Lib.hid (by
              rw [H1.out, H2.out]
              unfold makesQ
              rw [if_neg (by rw [← HN.out]; exact HC0.out), if_neg (by rw [← HN.out]; exact HC3.out), if_neg HNO.out, if_pos (by rw [← HSS.out]; exact hb)]
              exact ⟨rfl, rfl⟩)
            clear hb
            go_wp2
            go_ret
            exact ⟨by rw [HQ.out.2]; rfl, HB.out⟩
          · have hb' : ¬ (3000 : Int) < (S : Int) := by omega
            have HQ : Hid (R1 = (S : Int) ∧ R2 = 0) := Lib.hid (by
              rw [H1.out, H2.out]
              unfold makesQ
              rw [if_neg (by rw [← HN.out]; exact HC0.out), if_neg (by rw [← HN.out]; exact HC3.out), if_neg HNO.out, if_neg (by rw [← HSS.out]; exact hb), ← HSS.out]
              exact ⟨rfl, rfl⟩)
            clear hb
            go_wp2
            go_ret
            exact ⟨by rw [HQ.out.2]; rfl, HB.out⟩
end Go.Proofs.Ythjelilmlbbalaa.Du
namespace Go.Proofs.Ythjelilmlbbalaa.Dw
open Go.RowKit Go.Proofs.Ythjelilmlbbalaa.Vm Go.Proofs.Ythjelilmlbbalaa.Vo Go.Proofs.Ythjelilmlbbalaa.Bw Go.Proofs.Ythjelilmlbbalaa.Na Go.Proofs.Ythjelilmlbbalaa.Ko Go.Proofs.Ythjelilmlbbalaa.Tm Go.Proofs.Ythjelilmlbbalaa.Ta Go.Proofs.Ythjelilmlbbalaa.Tb Go.Proofs.Ythjelilmlbbalaa.Tf Go.Proofs.Ythjelilmlbbalaa.Rm Go.Proofs.Ythjelilmlbbalaa.Rv Go.Proofs.Ythjelilmlbbalaa.Ra Go.Proofs.Ythjelilmlbbalaa.Rf Go.Proofs.Ythjelilmlbbalaa.Rg Go.Proofs.Ythjelilmlbbalaa.Rn Go.Proofs.Ythjelilmlbbalaa.Ed Go.Proofs.Ythjelilmlbbalaa.An Go.Proofs.Ythjelilmlbbalaa.Aa Go.Proofs.Ythjelilmlbbalaa.Ab Go.Proofs.Ythjelilmlbbalaa.Ap Go.Proofs.Ythjelilmlbbalaa.Ay Go.Proofs.Ythjelilmlbbalaa.Ak Go.Proofs.Ythjelilmlbbalaa.Da Go.Proofs.Ythjelilmlbbalaa.Db Go.Proofs.Ythjelilmlbbalaa.Dm Go.Proofs.Ythjelilmlbbalaa.Dn Go.Proofs.Ythjelilmlbbalaa.De Go.Proofs.Ythjelilmlbbalaa.Df Go.Proofs.Ythjelilmlbbalaa.Dk Go.Proofs.Ythjelilmlbbalaa.Du Go.Proofs.Ythjelilmlbbalaa.Dv

open Classical in
/-- The trees that nodes are. -/
noncomputable def trs (L : List (List Nd)) : List T := L.map (fun l => if h : isT l then h.choose else .emp)
theorem trs_len (L : List (List Nd)) : (trs L).length = L.length := by simp [trs]
theorem trs_get {L : List (List Nd)} {i : Nat} {l : List Nd} (h : L[i]? = some l) (ht : isT l) : ∃ t, (trs L)[i]? = some t ∧ okT t ∧ l = enc t ∧ l.length ≤ 400 ∧ szL l = szQ t := by
  refine ⟨ht.choose, ?_, ht.choose_spec.1, ht.choose_spec.2.1, ht.choose_spec.2.2, ?_⟩
  · unfold trs
    rw [List.getElem?_map, h]
    simp [ht]
  · unfold szL
    rw [dif_pos ht]
/-- Nodes from which an automaton is made. -/
structure mkOk (L : List (List Nd)) : Prop where
  l0 : L.length ≠ 0
  l32 : L.length ≤ 32
  t : ∀ l ∈ L, isT l
  s : 1 + szSum L ≤ 3000
theorem mkOk_of {w : World} {A : Option Addr} {L : List (List Nd)} (H : ndr w A L) (h : (makesQ L).2 = 0) : mkOk L ∧ (makesQ L).1 = ((1 + szSum L : Nat) : Int) := by
  unfold makesQ at h ⊢
  by_cases h1 : L.length = 0
  · rw [if_pos h1] at h; simp at h
  · rw [if_neg h1] at h ⊢
    by_cases h2 : 32 < L.length
    · rw [if_pos h2] at h; simp at h
    · rw [if_neg h2] at h ⊢
      by_cases h3 : ∃ l ∈ L, checkI l ≠ 0
      · rw [if_pos h3] at h; simp at h
      · rw [if_neg h3] at h ⊢
        by_cases h4 : 3000 < 1 + szSum L
        · rw [if_pos h4] at h; simp at h
        · rw [if_neg h4]
          refine ⟨⟨h1, by omega, fun l hl => ?_, by omega⟩, rfl⟩
          obtain ⟨i, hi⟩ := List.mem_iff_getElem?.1 hl
          obtain ⟨b, off, _, _, A', c', _, _, hn⟩ := H i l hi
          refine (check_isT hn).1 ?_
          rcases check_two l with k | k
          · exact k
          · exact absurd ⟨l, hl, by rw [k]; decide⟩ h3
section
variable {L : List (List Nd)}
theorem mkOk.ok (h : mkOk L) : ∀ t ∈ trs L, okT t := fun t ht => by
  obtain ⟨i, hi⟩ := List.mem_iff_getElem?.1 ht
  have hlt := (List.getElem?_eq_some_iff.1 hi).1
  rw [trs_len] at hlt
  obtain ⟨u, hu, k, _⟩ := trs_get (List.getElem?_eq_getElem hlt) (h.t _ (List.getElem_mem hlt))
  rw [hi] at hu
  obtain rfl := Option.some.inj hu
  exact k
theorem mkOk.enc (h : mkOk L) : (trs L).map enc = L ∧ ∀ t ∈ trs L, (Rm.enc t).length ≤ 400 := by
  constructor
  · refine List.ext_getElem? (fun i => ?_)
    rw [List.getElem?_map]
    by_cases hi : i < L.length
    · obtain ⟨u, hu, _, k, _⟩ := trs_get (List.getElem?_eq_getElem hi) (h.t _ (List.getElem_mem hi))
      rw [hu, List.getElem?_eq_getElem hi]
      simp [← k]
    · rw [List.getElem?_eq_none (by rw [trs_len]; omega), List.getElem?_eq_none (by omega)]
      rfl
  · intro t ht
    obtain ⟨i, hi⟩ := List.mem_iff_getElem?.1 ht
    have hlt := (List.getElem?_eq_some_iff.1 hi).1
    rw [trs_len] at hlt
    obtain ⟨u, hu, _, k, k2, _⟩ := trs_get (List.getElem?_eq_getElem hlt) (h.t _ (List.getElem_mem hlt))
    rw [hi] at hu
    obtain rfl := Option.some.inj hu
    rw [← k]
    exact k2
theorem sz_sum : ∀ {L : List (List Nd)}, (∀ l ∈ L, isT l) → szSum L < 1000000 → ((trs L).map szU).sum = szSum L
  | [], _, _ => rfl
  | l :: L, ht, hs => by
    obtain ⟨u, hu, _, _, _, k⟩ := trs_get (L := l :: L) (i := 0) rfl (ht l (by simp))
    have e : trs (l :: L) = u :: trs L := by
      unfold trs at hu ⊢
      rw [List.map_cons] at hu ⊢
      simp at hu
      rw [hu]
    unfold szSum at hs ⊢
    rw [List.map_cons, List.sum_cons] at hs ⊢
    rw [e, List.map_cons, List.sum_cons]
    have k2 := sz_sum (L := L) (fun l hl => ht l (by simp [hl])) (by unfold szSum; omega)
    unfold szSum at k2
    rw [k2, (sz_two u).1 (by omega), k]
theorem mkOk.sum (h : mkOk L) : ((trs L).map szU).sum = szSum L := sz_sum h.t (by have := h.s; omega)
end
theorem sum_take (ts : List T) (i : Nat) : ((ts.take i).map szU).sum ≤ (ts.map szU).sum := by
  rw [szUs_sum, szUs_sum]
  exact szUs_le ts i
theorem mkQ_sm {ts : List T} (hok : ∀ t ∈ ts, okT t) : ∀ i, i ≤ ts.length → sm (mkQ ts i).E ≤ 2 * ((ts.take i).map szU).sum
  | 0, _ => by simp [mkQ, sm]
  | i + 1, h => by
    obtain ⟨t, ht⟩ : ∃ t, ts[i]? = some t := ⟨_, List.getElem?_eq_getElem (by omega)⟩
    have k := mkQ_sm hok i (by omega)
    have k2 := bT_sm t (hok t (List.mem_of_getElem? ht)) (mkQ ts i).E
    have k3 := sm_fr (bT t (mkQ ts i).E).E 0 (bT t (mkQ ts i).E).i
    have e : ((ts.take (i + 1)).map szU).sum = ((ts.take i).map szU).sum + szU t := by rw [szUs_sum, szUs_sum, szUs_take ht]
    rw [mkQ_next ht, e]
    show sm (fr _ _ _) ≤ _
    omega
/-- What the loop knows of the first so many trees. -/
structure mkB (ts : List T) (i : Nat) (E : List (List Eg)) (R : List Int) : Prop where
  e : mkQ ts i = ⟨E, R⟩
  rl : R.length = E.length
  l1 : 1 ≤ E.length
  len : E.length ≤ 1 + (ts.map szU).sum
  su : sm E ≤ 2 * (ts.map szU).sum
theorem mkB_at {ts : List T} (hok : ∀ t ∈ ts, okT t) {i : Nat} (hi : i ≤ ts.length) : ∃ E R, mkB ts i E R := by
  obtain ⟨o, k⟩ := mkQ_inv hok i hi
  have k2 := mkQ_sm hok i hi
  have k3 := sum_take ts i
  have k4 := k.len
  exact ⟨_, _, rfl, k.rl, by omega, by omega, by omega⟩
theorem mkB_next {ts : List T} (hok : ∀ t ∈ ts, okT t) {i : Nat} {E : List (List Eg)} {R : List Int} {t : T} (h : mkB ts i E R) (ht : ts[i]? = some t) : mkB ts (i + 1) (fr (bT t E).E 0 (bT t E).i) ((R ++ List.replicate (szU t) (-1)).set (bT t E).o (i : Int)) ∧ E.length + szU t ≤ 1 + (ts.map szU).sum ∧ sm E + 2 * szU t ≤ 2 * (ts.map szU).sum := by
  have hlt := (List.getElem?_eq_some_iff.1 ht).1
  have hok' := hok t (List.mem_of_getElem? ht)
  have p := bT_pt t hok' E
  obtain ⟨E2, R2, k⟩ := mkB_at hok (i := i + 1) (by omega)
  have e : mkQ ts (i + 1) = ⟨fr (bT t E).E 0 (bT t E).i, (R ++ List.replicate (szU t) (-1)).set (bT t E).o (i : Int)⟩ := by
    rw [mkQ_next ht, h.e]
    unfold mkS
    dsimp only
    rw [show (bT t E).E.length - E.length = szU t by have := p.len; omega]
  have ke := k.e
  rw [e] at ke
  injection ke with k1 k2
  rw [← k1, ← k2] at k
  refine ⟨k, ?_, ?_⟩
  · have h1 := k.len
    have h2 := p.len
    rw [fr_len] at h1
    omega
  · have q1 := mkQ_sm hok i (by omega)
    have q2 : ((ts.take (i + 1)).map szU).sum = ((ts.take i).map szU).sum + szU t := by rw [szUs_sum, szUs_sum, szUs_take ht]
    have q3 := sum_take ts (i + 1)
    rw [h.e] at q1
    dsimp only at q1
    omega
theorem fa_first {w : World} {g : Nat} {S : Nat → Prop} {E : List (List Eg)} {F : Int} {R : List Int} (h : fA w g S E F R) (x : Int) (hx : in64 x) : fA (w.setCell ⟨g, 1, none⟩ (.int .i64 x)) g S E x R := by
  obtain ⟨vE, vR, rv, h⟩ := h
  have o : Only (fun i => i = g) w (w.setCell ⟨g, 1, none⟩ (.int .i64 x)) := (Only.refl (fun i => i = g) w).store (p := ⟨g, 1, none⟩) (.inl rfl) _
  exact ⟨vE, vR, rv, h.b.store 1 _, h.e.only o (fun q hq e => own_apart h.e h.b (by decide) q hq e), h.r.only o (fun q hq e => own_apart h.r h.b (by decide) q hq e), h.len, fun i v l h1 h2 => own_only (h.rows i v l h1 h2) o (fun q hq e => own_apart (h.rows i v l h1 h2) h.b (by decide) q hq e), h.dis, h.ok, h.sg, h.se, h.sr, h.ss, hx⟩
theorem fa_rule {w : World} {g b n c o : Nat} {S : Nat → Prop} {E : List (List Eg)} {F : Int} {R : List Int} {vE : Value} {rv : List Value} (h : fa w g S E F R vE (.slice (some ⟨b, 0, none⟩) n c) rv) (x : Int) : fA (w.setCell ⟨b, o, none⟩ (.int .i64 x)) g S E F (R.set o x) ∧ S b := by
  have ob : Only (fun i => i = b) w (w.setCell ⟨b, o, none⟩ (.int .i64 x)) := (Only.refl (fun i => i = b) w).store (p := ⟨b, o, none⟩) (.inl rfl) _
  obtain ⟨cur, hb⟩ : ∃ cur, Blk w b 3 cur := by
    rcases h.r.2 with ⟨e0, _⟩ | ⟨g', _, cur, e0, _, hh, _⟩
    · cases e0
    · injection e0 with e0 _ _
      injection e0 with e0
      injection e0 with e0 _ _
      subst e0
      exact ⟨cur, hh⟩
  have n1 : n = R.length := by
    obtain ⟨A', c', e, _⟩ := h.r.le
    injection e
  subst n1
  have k : w.ownsRow 0 3 1 (.slice (some ⟨b, 0, none⟩) R.length c) R.length (Is R) := h.r
  have k2 := (k.stored o (.int .i64 x)).1
  have e1 : Is (R.set o x) = (Is R).set o (.int .i64 x) := by unfold Is; rw [List.map_set]
  refine ⟨⟨vE, .slice (some ⟨b, 0, none⟩) R.length c, rv, h.b.only ob (fun e => Blk.apart h.b hb (by decide) e), h.e.only ob (fun q hq e => own_apart h.e hb (by decide) q hq e), ?_, h.len, fun i v l h1 h2 => own_only (h.rows i v l h1 h2) ob (fun q hq e => own_apart (h.rows i v l h1 h2) hb (by decide) q hq e), h.dis, h.ok, h.sg, h.se, h.sr, h.ss, h.F6⟩, h.sr b rfl⟩
  unfold ints
  rw [List.length_set, e1]
  exact k2
theorem fa_zero (w : World) : fA (w.alloc (.cells #[.slice none 0 0, .int .i64 0, .slice none 0 0] 28)) w.heap.size (fun i => i = w.heap.size) [] 0 [] :=
  ⟨.slice none 0 0, .slice none 0 0, [], Blk.fresh w _ _, vs_nil _ _ _, ints_nil _ _ _, rfl, fun i v l h => by simp at h, fun i j v u q h => by simp at h, by simp, rfl, fun q hq => (by cases hq), fun q hq => (by cases hq), by simp, by unfold in64; omega⟩
end Go.Proofs.Ythjelilmlbbalaa.Dw
namespace Go.Proofs.Ythjelilmlbbalaa.Dx
open Go.RowKit Go.Proofs.Ythjelilmlbbalaa.Vm Go.Proofs.Ythjelilmlbbalaa.Vo Go.Proofs.Ythjelilmlbbalaa.Bw Go.Proofs.Ythjelilmlbbalaa.Na Go.Proofs.Ythjelilmlbbalaa.Ko Go.Proofs.Ythjelilmlbbalaa.Tm Go.Proofs.Ythjelilmlbbalaa.Ta Go.Proofs.Ythjelilmlbbalaa.Tb Go.Proofs.Ythjelilmlbbalaa.Tf Go.Proofs.Ythjelilmlbbalaa.Rm Go.Proofs.Ythjelilmlbbalaa.Rv Go.Proofs.Ythjelilmlbbalaa.Ra Go.Proofs.Ythjelilmlbbalaa.Rf Go.Proofs.Ythjelilmlbbalaa.Rn Go.Proofs.Ythjelilmlbbalaa.Ed Go.Proofs.Ythjelilmlbbalaa.An Go.Proofs.Ythjelilmlbbalaa.Aa Go.Proofs.Ythjelilmlbbalaa.Ab Go.Proofs.Ythjelilmlbbalaa.Ap Go.Proofs.Ythjelilmlbbalaa.Ay Go.Proofs.Ythjelilmlbbalaa.Ak Go.Proofs.Ythjelilmlbbalaa.Da Go.Proofs.Ythjelilmlbbalaa.Db Go.Proofs.Ythjelilmlbbalaa.Dm Go.Proofs.Ythjelilmlbbalaa.Dn Go.Proofs.Ythjelilmlbbalaa.De Go.Proofs.Ythjelilmlbbalaa.Df Go.Proofs.Ythjelilmlbbalaa.Dk Go.Proofs.Ythjelilmlbbalaa.Du Go.Proofs.Ythjelilmlbbalaa.Dv Go.Proofs.Ythjelilmlbbalaa.Dw

theorem results_cell2 {P : Program} {fn : Func} {p u : Tmp} {ty : TypeId} (h : fn.results = #[.cell p ty, .tmp u]) (tmps : Array Value) (w : World) (g : Nat) (t : TypeId) (cs : Array Value) (d : TypeDesc) (x : Value)
    (hp : tmps.getD p undef = .pointer (some ⟨g, 0, none⟩)) (hx : tmps.getD u undef = x) (hg : Blk w g t cs) (hu : P.underlying ty = some d) (hd : (match d with | .struct _ | .array _ _ => true | _ => false) = true) (hi : (P.info? ty).map (·.size) = some cs.size) :
    (results fn tmps).run P w = .ok (.tuple #[.agg cs, x]) w := by
  have hp' : tmps[p]?.getD undef = .pointer (some ⟨g, 0, none⟩) := by simpa using hp
  have hx' : tmps[u]?.getD undef = x := by simpa using hx
  simp only [results, h]
  simp [hp', hx', asAddr, run_loadVar_row w g t ty cs (0, 0) d hg hu hd hi]
theorem sizeNfa : (Try.prog.info? 28).map (·.size) = some 3 := by kernel_rfl
theorem nfa_blk {w2 : World} {g : Nat} {x0 x1 x2 : Value} (h : Blk w2 g 28 #[x0, x1, x2]) (y0 y1 y2 : Value) : Blk (((w2.setCell ⟨g, 0, none⟩ y0).setCell ⟨g, 1, none⟩ y1).setCell ⟨g, 2, none⟩ y2) g 28 #[y0, y1, y2] := ((h.store 0 y0).store 1 y1).store 2 y2
theorem nfa_only {w2 : World} {g : Nat} (y0 y1 y2 : Value) : Only (fun i => i = g) w2 (((w2.setCell ⟨g, 0, none⟩ y0).setCell ⟨g, 1, none⟩ y1).setCell ⟨g, 2, none⟩ y2) :=
  (((Only.refl (fun i => i = g) w2).store (p := ⟨g, 0, none⟩) (.inl rfl) y0).store (p := ⟨g, 1, none⟩) (.inl rfl) y1).store (p := ⟨g, 2, none⟩) (.inl rfl) y2
/-- What Make answers. -/
def ansM (L : List (List Nd)) (w : World) (e : Ending) (w' : World) : Prop := Below w.heap.size w w' ∧ ((makesQ L).2 ≠ 0 → e = .returned (.tuple #[.agg #[.slice none 0 0, .int .i64 0, .slice none 0 0], .int .i64 (makesQ L).2])) ∧
  ((makesQ L).2 = 0 → ∃ A1 A2 c1 c2, e = .returned (.tuple #[nv A1 A2 c1 c2 (auQ (trs L)), .int .i64 0]) ∧ nfa w' A1 A2 (auQ (trs L)))
set_option maxHeartbeats 8000000 in
set_option maxRecDepth 100000 in
theorem Make_any {A : Option Addr} {cap : Nat} {L : List (List Nd)} (hL : L.length ≤ 1000000) (hl : ∀ l ∈ L, l.length ≤ 1000000) {w : World} (H : Hid (ndr w A L)) :
    Calls Try.prog 9 #[.slice A L.length cap] w fun e w' => ansM L w e w' := by
  have HCK : Hid (∀ u, Below w.heap.size w u → Calls Try.prog 27 #[.slice A L.length cap] u fun e w' => e = .returned (.int .i64 (makesQ L).2) ∧ Below u.heap.size u w') := Lib.hid (fun u k => check_any hL hl (Lib.hid (H.out.below k)))
  obtain ⟨R2, hR2⟩ : ∃ R2, R2 = (makesQ L).2 := ⟨_, rfl⟩
  have HR2 := Lib.hid hR2
  obtain ⟨N, hN⟩ : ∃ N, N = L.length := ⟨_, rfl⟩
  have HN := Lib.hid hN
  have HMO := Lib.hid (mkOk_of H.out)
  rw [← hN] at HCK ⊢
  rw [← hR2] at HCK HMO
  obtain ⟨w1, hw1⟩ : ∃ w1, w1 = w.alloc (.cells #[.slice none 0 0, .int .i64 0, .slice none 0 0] 28) := ⟨_, rfl⟩
  have B1 : Hid (Below w.heap.size w w1) := Lib.hid (by rw [hw1]; exact below_alloc _ _)
  have K1 : Hid (Blk w1 w.heap.size 28 #[.slice none 0 0, .int .i64 0, .slice none 0 0]) := Lib.hid (by rw [hw1]; exact Blk.fresh _ _ _)
  clear hL hl hN hR2
  go_enter Try.func9, Try.ntmps9
  go_upto_region 1 with fail
  rw [← hw1]
  clear hw1
  by_cases h0 : R2 = 0
  · subst h0
    obtain ⟨hok, _⟩ := HMO.out rfl
    have HOK := Lib.hid hok
    clear hok
    go_upto_region 4 with (go_at_call 27; refine (HCK.out _ B1.out).mono ?_; rintro e w2 ⟨rfl, k2⟩; have K2 := Lib.hid (K1.out.below k2); have B2 := Lib.hid (grows B1.out k2); clear k2)
    obtain ⟨w3, hw3⟩ : ∃ w3, w3 = w2.alloc (.cells #[.slice none 0 0, .int .i64 0, .slice none 0 0] 28) := ⟨_, rfl⟩
    obtain ⟨g, hg⟩ : ∃ g, g = w2.heap.size := ⟨_, rfl⟩
    have F3 : Hid (fA w3 g (fun i => i = g) [] 0 []) := Lib.hid (by rw [hw3, hg]; exact fa_zero w2)
    have B3 : Hid (Below g w2 w3) := Lib.hid (by rw [hw3, hg]; exact below_alloc _ _)
    have HG := Lib.hid hg
    have HST : Hid (Calls Try.prog 28 #[.pointer (some ⟨g, 0, none⟩)] w3 fun e w' => e = .returned (.int .i64 0) ∧ ∃ S', fA w' g S' [[]] 0 [-1] ∧ goes (fun i => i = g) S' w3 w') := Lib.hid (state_any (E := []) (R := []) (by simp) rfl F3)
    go_upto_region 5 with fail
    rw [← hw3, ← hg]
    clear hw3 hg
    go_upto_region 6 with (go_at_call 28; refine HST.out.mono ?_; rintro e w4 ⟨rfl, S4, f4, g4⟩; have F4 := Lib.hid f4; have G4 := Lib.hid g4; obtain ⟨vE4, vR4, rv4, ff4⟩ := f4; have c41 := ff4.b.cell 1; have f41 := ff4.b.frozen 1; clear ff4 g4)
    obtain ⟨w5, hw5⟩ : ∃ w5, w5 = w4.setCell ⟨g, 1, none⟩ (.int .i64 0) := ⟨_, rfl⟩
    have F5 : Hid (fA w5 g S4 [[]] 0 [-1]) := Lib.hid (by rw [hw5]; exact fa_first F4.out 0 (by unfold in64; omega))
    have SG4 : Hid (∀ i, S4 i → g ≤ i) := Lib.hid (fun i hi => by
      rcases G4.out.2 i hi with h | h
      · have h' : i = g := h; omega
      · have h1 := B3.out.size; have h2 := HG.out; omega)
    have B5 : Hid (Below g w2 w5) := Lib.hid (by
      have o4 : Below g w2 w4 := G4.out.1.below B3.out (by have h1 := B3.out.size; have h2 := HG.out; omega) (fun i hi => by have h' : i = g := hi; omega)
      rw [hw5]
      exact ((Only.refl (fun i => i = g) w4).store (p := ⟨g, 1, none⟩) (.inl rfl) (.int .i64 0)).below o4 (by have h1 := o4.size; have h2 := HG.out; omega) (fun i hi => by have h' : i = g := hi; omega))
    rw [← hw5]
    clear hw5 c41 f41 F4 G4 B3 F3 HST
    obtain ⟨ts, hts⟩ : ∃ ts, ts = trs L := ⟨_, rfl⟩
    have HTS := Lib.hid hts
    have HTO : Hid (∀ t ∈ ts, okT t) := Lib.hid (by rw [hts]; exact HOK.out.ok)
    have HTL : Hid (ts.length = N) := Lib.hid (by rw [hts, trs_len, HN.out])
    have HSU : Hid ((ts.map szU).sum ≤ 2999) := Lib.hid (by rw [hts, HOK.out.sum]; have := HOK.out.s; omega)
    have HGT : Hid (∀ (i : Nat) (l : List Nd), L[i]? = some l → ∃ t, ts[i]? = some t ∧ okT t ∧ l = enc t ∧ l.length ≤ 400) := Lib.hid (fun i l hl => by
      obtain ⟨t, h1, h2, h3, h4, _⟩ := trs_get hl (HOK.out.t l (List.mem_of_getElem? hl))
      exact ⟨t, by rw [hts]; exact h1, h2, h3, h4⟩)
    clear hts
    have hN32 : N ≤ 32 := by rw [HN.out]; exact HOK.out.l32
    have HBW : Hid (∀ u, Below g w2 u → Below w.heap.size w u) := Lib.hid (fun u k => B2.out.trans (k.mono (by have h1 := HG.out; have h2 := B2.out.size; omega)))
    go_wp2
    go_loopw [6, 7, 8, 9, 10, 11, 22] (fun _ _ _ _ _ _ s22 wr => ∃ (i : Nat) (E : List (List Eg)) (R : List Int) (S : Nat → Prop), s22 = .int .i64 (i : Int) ∧ i ≤ N ∧ Hid (mkB ts i E R) ∧ Hid (fA wr g S E 0 R) ∧ Hid (∀ q, S q → g ≤ q) ∧ Hid (Below g w2 wr)) (fun _ _ _ _ _ _ s22 _ => N - (intOf s22).toNat)
    case atStart =>
      obtain ⟨E, R, k⟩ := mkB_at HTO.out (i := 0) (Nat.zero_le _)
      have e := k.e
      rw [mkQ] at e
      injection e with e1 e2
      subst e1; subst e2
      exact ⟨0, _, _, S4, rfl, by omega, Lib.hid k, F5, SG4, B5⟩
    case round =>
      obtain ⟨i, E, R, S, rfl, hi, HM, HF, HS, HB⟩ := hrel
      by_cases hiN : i < N
      · have hiN' : (i : Int) < (N : Int) := by omega
        have hi0 : (0 : Int) ≤ (i : Int) := by omega
        obtain ⟨l, hl⟩ : ∃ l, L[i]? = some l := ⟨_, List.getElem?_eq_getElem (by rw [← HN.out]; exact hiN)⟩
        obtain ⟨t, ht, hok, hle, h400⟩ := HGT.out i l hl
        have HT := Lib.hid ht
        have HT1 := Lib.hid hok
        have BWR := Lib.hid (HBW.out wr HB.out)
        obtain ⟨b, off, rfl, hb, A', c', hrow, hcc, hnd⟩ := (H.out.below BWR.out) i l hl
        obtain ⟨X, hX⟩ : ∃ X, X = l.length := ⟨_, rfl⟩
        have HPL : Hid (Calls Try.prog 29 #[.pointer (some ⟨g, 0, none⟩), .slice A' X c'] wr fun e w' => ansP g t [] wr wr e w') := Lib.hid (planned_all g 400 t (by rw [← hle]; exact h400) (by omega) hok [] _ wr wr (by rw [List.append_nil, ← hle]; omega) ⟨A', c', by rw [List.append_nil, ← hle, hX], by rw [List.append_nil, ← hle]; exact hcc, by rw [List.append_nil, ← hle]; exact hnd⟩ (Below.refl _ _))
        rw [← hX] at hrow
        obtain ⟨HN1, hb1, hb2⟩ := mkB_next HTO.out HM.out ht
        have HNX := Lib.hid HN1
        have hpt := bT_pt t hok E
        have hps := bT_sm t hok E
        have hpb := hpt.bd
        have hpl := hpt.len
        have hsu := HSU.out
        have hrl := HM.out.rl
        have hl1 := HM.out.l1
        have HTR : Hid (fA wr g (fun q => S q ∧ q < wr.heap.size) E 0 R) := Lib.hid (Df.fA.trim HF.out)
        have HCR : Hid (∀ (w5 : World) (p : Value) (Z : Nat → Prop), Below wr.heap.size wr w5 → plan w5 g t p Z → (∀ q, Z q → wr.heap.size ≤ q) → ∃ k caps, p = .func (.func k) #[] caps ∧ (∀ args w, (callFunc k args).run Try.prog w = .ok (.enter k args) w) ∧ Calls Try.prog k caps w5 fun e w' => mkd g (fun q => S q ∧ q < wr.heap.size) w5 t E 0 R e w') := Lib.hid (fun w5 p Z k hp hz => by
          obtain ⟨k1, caps, e, he, hc⟩ := plan_calls hp (S := fun q => S q ∧ q < wr.heap.size) (fun q hq hs => by have := hz q hq; omega)
          exact ⟨k1, caps, e, he, hc w5 _ E 0 R (goes.refl _ _) (HTR.out.below k) hrl (by omega) (by omega)⟩)
        obtain ⟨i1, hi1⟩ : ∃ q, q = (bT t E).i := ⟨_, rfl⟩
        obtain ⟨o1, ho1⟩ : ∃ q, q = (bT t E).o := ⟨_, rfl⟩
        have HI1 := Lib.hid hi1
        have HO1 := Lib.hid ho1
        have HFR : Hid (∀ (u : World) (S' : Nat → Prop) (R' : List Int), fA u g S' (bT t E).E 0 R' → Calls Try.prog 30 #[.pointer (some ⟨g, 0, none⟩), .int .i64 0, .int .i64 (i1 : Int)] u fun e w' => e = .returned (.tuple #[]) ∧ ∃ S'', fA w' g S'' (fr (bT t E).E 0 i1) 0 R' ∧ goes S' S'' u w') := Lib.hid (fun u S' R' h => free_any (a := 0) (by omega) (by omega) (by omega) (Lib.hid h))
        have HRL : Hid ((R ++ List.replicate (szU t) (-1 : Int)).length = (bT t E).E.length ∧ o1 < (bT t E).E.length) := Lib.hid ⟨by simp; omega, by omega⟩
        have HBO := Lib.hid hb
        clear hl ht hok hle h400 hcc hnd hX HN1 hb1 hb2 hpt hps hpb hpl hsu hrl hl1 hi1 ho1 hiN
        go_upto_region 12 with (first | (go_at_call 29; refine HPL.out.mono ?_; rintro e w5 ⟨p5, v5, Z5, rfl, hp5, hz5, h5, k5⟩; obtain ⟨A9, n9, c9, rfl, hn9, _⟩ := Dt.sl.form h5; obtain ⟨k4, caps4, rfl, hent4, hcr4⟩ := HCR.out w5 p5 Z5 k5 hp5 hz5; have HC4 := Lib.hid hcr4; have K5 := Lib.hid k5; clear hp5 hz5 h5 k5 hn9 hcr4) | (go_at_fn k4; refine HC4.out.mono ?_; rintro e w6 ⟨rfl, S6, f6, g6⟩; have F6 := Lib.hid f6; have G6 := Lib.hid g6; obtain ⟨vE6, vR6, rv6, ff6⟩ := f6; have c61 := ff6.b.cell 1; rw [← HI1.out, ← HO1.out]; clear ff6 g6) | (go_at_call 30; refine (HFR.out _ _ _ F6.out).mono ?_; rintro e w7 ⟨rfl, S7, f7, g7⟩; have F7 := Lib.hid f7; have G7 := Lib.hid (G6.out.trans g7); clear f7 g7))
        obtain ⟨vE7, vR7, rv7, ff7⟩ := F7.out
        obtain ⟨A7, c7, hv7, _⟩ := ff7.r.le
        obtain ⟨M7, hM7⟩ : ∃ M, M = (R ++ List.replicate (szU t) (-1 : Int)).length := ⟨_, rfl⟩
        rw [← hM7] at hv7
        subst hv7
        have hoM : o1 < M7 := by rw [hM7]; have := HRL.out; omega
        have hoM' : (o1 : Int) < (M7 : Int) := by omega
        have ho0 : (0 : Int) ≤ (o1 : Int) := by omega
        obtain ⟨xo, hxo⟩ : ∃ x, (Is (R ++ List.replicate (szU t) (-1 : Int)))[o1]? = some x := ⟨_, List.getElem?_eq_getElem (by rw [Is_length, ← hM7]; exact hoM)⟩
        obtain ⟨b7, rfl, hb7, hc7⟩ := (vs_of_ints ff7.r).cell hxo
        have HF7 := Lib.hid ff7
        have d72 := ff7.b.cell 2
        have f7z : w7.frozen? ⟨b7, o1, none⟩ = false := by
          have k : w7.ownsRow 0 3 1 (.slice (some ⟨b7, 0, none⟩) M7 c7) (R ++ List.replicate (szU t) (-1 : Int)).length (Is (R ++ List.replicate (szU t) (-1 : Int))) := ff7.r
          rw [← hM7] at k
          exact k.frozenAt o1
        clear hM7 hxo ff7 hb7 c61 hrow
        go_wp2
        go_roundw
        case rel =>
          have hg2 : g = w2.heap.size := HG.out
          have s1 := HB.out.size
          have s2 := K5.out.size
          have sg7 : ∀ q, S7 q → g ≤ q := fun q hq => by
            rcases G7.out.2 q hq with h | h
            · exact HS.out q h.1
            · omega
          have b5 : Below g w2 w5 := HB.out.trans (K5.out.mono (by omega))
          have b7' : Below g w2 w7 := G7.out.1.below b5 (by omega) (fun q hq => HS.out q hq.1)
          have s3 := G7.out.1.size
          obtain ⟨k1, k2⟩ := fa_rule (o := o1) HF7.out (i : Int)
          refine ⟨i + 1, fr (bT t E).E 0 i1, (R ++ List.replicate (szU t) (-1)).set o1 (i : Int), S7, by go_num, by omega, Lib.hid (by rw [HI1.out, HO1.out]; exact HNX.out), Lib.hid k1, Lib.hid sg7, Lib.hid ?_⟩
          exact ((Only.refl (fun q => q = b7) w7).store (p := ⟨b7, o1, none⟩) (.inl rfl) (.int .i64 (i : Int))).below b7' (by omega) (fun q hq => by have h' : q = b7 := hq; rw [h']; exact sg7 _ k2)
        case measure => simp [intOf]; omega
      · obtain rfl : i = N := by omega
        have hiN' : ¬ (i : Int) < (i : Int) := by omega
        obtain ⟨vE, vR, rv, ff⟩ := HF.out
        obtain ⟨A1, c1, hv1, _⟩ := ff.e.le
        obtain ⟨A2, c2, hv2, _⟩ := ff.r.le
        rw [ff.len] at hv1
        subst hv1; subst hv2
        obtain ⟨n1, hn1⟩ : ∃ n, n = E.length := ⟨_, rfl⟩
        obtain ⟨n2, hn2⟩ : ∃ n, n = R.length := ⟨_, rfl⟩
        have HN1 := Lib.hid hn1
        have HN2 := Lib.hid hn2
        rw [← hn1, ← hn2] at ff
        have KW : Hid (Blk wr w.heap.size 28 #[.slice none 0 0, .int .i64 0, .slice none 0 0]) := Lib.hid (K2.out.below (by have := HB.out; rw [HG.out] at this; exact this))
        have d0 := ff.b.cell 0
        have d1 := ff.b.cell 1
        have d2 := ff.b.cell 2
        have q0 := KW.out.cell 0
        have q1 := KW.out.cell 1
        have q2 := KW.out.cell 2
        have f0 := KW.out.frozen 0
        have f1 := KW.out.frozen 1
        have f2 := KW.out.frozen 2
        have HNF := Lib.hid ff.nfa
        have HFF := Lib.hid ff
        clear ff hn1 hn2 hiN
        go_wp2
        refine bodyPost_ret (v := .tuple #[.agg #[.slice A1 n1 c1, .int .i64 0, .slice A2 n2 c2], .int .i64 0]) (results_cell2 rfl _ _ w.heap.size 28 #[.slice A1 n1 c1, .int .i64 0, .slice A2 n2 c2] _ _ rfl rfl (nfa_blk KW.out _ _ _) Try.underlying28 rfl sizeNfa) rfl ?_
        have o := nfa_only (w2 := wr) (g := w.heap.size) (.slice A1 n1 c1) (.int .i64 0) (.slice A2 n2 c2)
        have bw := HBW.out wr HB.out
        refine ⟨o.below bw bw.size (fun q hq => by rw [hq]; exact Nat.le_refl _), fun h => absurd HR2.out.symm h, fun _ => ⟨A1, A2, c1, c2, ?_, ?_⟩⟩
        · have e := HM.out.e
          have hA : auQ (trs L) = ⟨E, 0, R⟩ := by unfold auQ; rw [← HTS.out, HTL.out, e]
          unfold nv
          rw [hA, ← HN1.out, ← HN2.out]
        · have e := HM.out.e
          have hA : auQ (trs L) = ⟨E, 0, R⟩ := by unfold auQ; rw [← HTS.out, HTL.out, e]
          rw [hA]
          have hgs : ∀ q, S q → q ≠ w.heap.size := fun q hq => by have h1 := HS.out q hq; have h2 := HG.out; have h3 := K2.out.lt; omega
          exact (HFF.out.only o (fun q hq e => hgs q hq e)).nfa
  · have h0' : (R2 != 0) = true := by simp; exact h0
    have H0 := Lib.hid h0
    clear h0
    go_upto_region 2 with (go_at_call 27; refine (HCK.out _ B1.out).mono ?_; rintro e w2 ⟨rfl, k2⟩; have K2 := Lib.hid (K1.out.below k2); have B2 := Lib.hid (grows B1.out k2); clear k2)
    have d0 := K2.out.cell 0
    have d1 := K2.out.cell 1
    have d2 := K2.out.cell 2
    have f0 := K2.out.frozen 0
    have f1 := K2.out.frozen 1
    have f2 := K2.out.frozen 2
    go_wp2
    refine bodyPost_ret (v := .tuple #[.agg #[.slice none 0 0, .int .i64 0, .slice none 0 0], .int .i64 R2]) (results_cell2 rfl _ _ w.heap.size 28 #[.slice none 0 0, .int .i64 0, .slice none 0 0] _ _ rfl rfl (nfa_blk K2.out _ _ _) Try.underlying28 rfl sizeNfa) rfl ?_
    refine ⟨(nfa_only _ _ _).below B2.out B2.out.size (fun i hi => by rw [hi]; exact Nat.le_refl _), fun _ => by rw [← HR2.out], fun h => absurd (HR2.out.trans h) H0.out⟩
end Go.Proofs.Ythjelilmlbbalaa.Dx
namespace Go.Proofs.Ythjelilmlbbalaa.Ol
open Go.RowKit Go.Proofs.Ythjelilmlbbalaa.Vm Go.Proofs.Ythjelilmlbbalaa.Vo Go.Proofs.Ythjelilmlbbalaa.Bw Go.Proofs.Ythjelilmlbbalaa.Na Go.Proofs.Ythjelilmlbbalaa.Ko Go.Proofs.Ythjelilmlbbalaa.Tm Go.Proofs.Ythjelilmlbbalaa.Ta Go.Proofs.Ythjelilmlbbalaa.Tb Go.Proofs.Ythjelilmlbbalaa.Tf Go.Proofs.Ythjelilmlbbalaa.Rm Go.Proofs.Ythjelilmlbbalaa.Rv Go.Proofs.Ythjelilmlbbalaa.Ra Go.Proofs.Ythjelilmlbbalaa.Rf Go.Proofs.Ythjelilmlbbalaa.Rg Go.Proofs.Ythjelilmlbbalaa.Rn Go.Proofs.Ythjelilmlbbalaa.Ed Go.Proofs.Ythjelilmlbbalaa.An Go.Proofs.Ythjelilmlbbalaa.Aa Go.Proofs.Ythjelilmlbbalaa.Ab Go.Proofs.Ythjelilmlbbalaa.Ac Go.Proofs.Ythjelilmlbbalaa.Ae Go.Proofs.Ythjelilmlbbalaa.Ap Go.Proofs.Ythjelilmlbbalaa.Ay Go.Proofs.Ythjelilmlbbalaa.Ak Go.Proofs.Ythjelilmlbbalaa.Da Go.Proofs.Ythjelilmlbbalaa.Db Go.Proofs.Ythjelilmlbbalaa.Dm Go.Proofs.Ythjelilmlbbalaa.Dn Go.Proofs.Ythjelilmlbbalaa.De Go.Proofs.Ythjelilmlbbalaa.Dc Go.Proofs.Ythjelilmlbbalaa.Df Go.Proofs.Ythjelilmlbbalaa.Dk Go.Proofs.Ythjelilmlbbalaa.Du Go.Proofs.Ythjelilmlbbalaa.Dv Go.Proofs.Ythjelilmlbbalaa.Dw Go.Proofs.Ythjelilmlbbalaa.Dx Go.Proofs.Ythjelilmlbbalaa.Ok

/-- The trees. -/
def tB : T := .set (ofS [98])
def tA : T := .alt [.set (ofS [97]), .set (ofS [98])]
theorem encB : enc tB = lB := by rfl
theorem encA : enc tA = lA := by simp [tA, enc, encs, lA]
theorem neS (c : UInt8) : ofS [c] ≠ zero := fun h => by
  have h1 := has_ofS [c] (d := c.toNat) (UInt8.toNat_lt c)
  rw [h, has_zero (UInt8.toNat_lt c)] at h1
  simp at h1
theorem okB : okT tB := ⟨ofS_set _, neS 98⟩
theorem okA' : okT tA := ⟨by decide, ⟨ofS_set _, neS 97⟩, ⟨ofS_set _, neS 98⟩, trivial⟩
theorem inv_set {t : T} {a : List Nat} (h : enc t = [⟨1, 0, a, 0, 0⟩]) : t = .set a := by
  cases t <;> simp [enc] at h
  rw [h]
theorem enc_pos (t : T) : 1 ≤ (enc t).length := by cases t <;> simp [enc]
theorem inv_two {l : List T} {x y : Nd} (h : encs l = [x, y]) (hn : l.length = 2) : ∃ t u, l = [t, u] ∧ enc t = [x] ∧ enc u = [y] := by
  match l, hn with
  | [t, u], _ =>
    simp only [encs, List.append_nil] at h
    have ht := enc_pos t
    have hu := enc_pos u
    have hl := congrArg List.length h
    rw [List.length_append] at hl
    simp at hl
    obtain ⟨a, ha⟩ := List.length_eq_one_iff.1 (show (enc t).length = 1 by omega)
    obtain ⟨b, hb⟩ := List.length_eq_one_iff.1 (show (enc u).length = 1 by omega)
    rw [ha, hb] at h
    simp at h
    exact ⟨t, u, rfl, by rw [ha, h.1], by rw [hb, h.2]⟩
theorem inv_B {t : T} (h : enc t = lB) : t = tB := inv_set h
theorem inv_A {t : T} (h : enc t = lA) : t = tA := by
  unfold lA at h
  cases t <;> simp [enc] at h
  rename_i l
  obtain ⟨hn, h⟩ := h
  obtain ⟨t, u, rfl, h1, h2⟩ := inv_two h (by omega)
  rw [inv_set h1, inv_set h2]
  rfl
theorem isB : isT lB := ⟨tB, okB, encB.symm, by decide⟩
theorem isA : isT lA := ⟨tA, okA', encA.symm, by decide⟩
theorem szB : szL lB = 2 := by
  unfold szL
  rw [dif_pos isB, inv_B isB.choose_spec.2.1.symm]
  simp [tB, szQ]
theorem szA : szL lA = 6 := by
  unfold szL
  rw [dif_pos isA, inv_A isA.choose_spec.2.1.symm]
  simp [tA, szQ, szS]
theorem trsAB : trs [lA, lB] = [tA, tB] := by
  unfold trs
  simp only [List.map_cons, List.map_nil, dif_pos isA, dif_pos isB]
  rw [inv_A isA.choose_spec.2.1.symm, inv_B isB.choose_spec.2.1.symm]
theorem sumAB : szSum [lA, lB] = 8 := by unfold szSum; simp [szA, szB]
theorem mkAB : mkOk [lA, lB] := by
  refine ⟨by decide, by decide, fun l hl => ?_, by rw [sumAB]; decide⟩
  rcases List.mem_cons.1 hl with rfl | hl
  · exact isA
  · rcases List.mem_cons.1 hl with rfl | hl
    · exact isB
    · cases hl
theorem makesAB (hc : ∀ l ∈ [lA, lB], checkI l = 0) : makesQ [lA, lB] = (9, 0) := by
  unfold makesQ
  rw [if_neg (by decide), if_neg (by decide), if_neg (fun ⟨l, hl, h⟩ => h (hc l hl)), sumAB, if_neg (by decide)]
  rfl
theorem makes_nil : makesQ [] = (0, 17) := by unfold makesQ; rw [if_pos (by rfl)]
/-- The automaton of both. -/
noncomputable def au : Au := auQ (trs [lA, lB])
theorem okTAB : ∀ t ∈ trs [lA, lB], okT t := mkAB.ok
theorem au_len : au.E.length = 9 ∧ au.R.length = 9 := by
  have h := auQ_len okTAB
  have h2 := mkAB.sum
  rw [sumAB] at h2
  have h3 : au.E.length = 9 := by unfold au; rw [h.1, h2]
  exact ⟨h3, by rw [← h3]; exact h.2⟩
theorem au_row {L : List (List Nd)} (h : mkOk L) : ∀ l ∈ (auQ (trs L)).E, l.length ≤ 1000000 := fun l hl => by
  have h1 := le_sm hl
  have h2 := mkQ_sm h.ok (trs L).length (Nat.le_refl _)
  rw [List.take_length, h.sum] at h2
  have h3 := h.s
  have h4 : l.length ≤ sm (mkQ (trs L) (trs L).length).E := h1
  omega
theorem au_ok : okA au := by
  have h2 := mkAB.sum
  rw [sumAB] at h2
  exact auQ_ok okTAB (by rw [trs_len]; decide) (by rw [h2]; decide)
/-- Which of them match. -/
theorem m_set {s : List Nat} {c : UInt8} : Am.mt s (.set (ofS [c])) 0 s.length ↔ s = [c.toNat] := by
  unfold Am.mt
  constructor
  · rintro ⟨h1, d, hd, h2⟩
    obtain ⟨x, rfl⟩ := List.length_eq_one_iff.1 (by omega : s.length = 1)
    simp at hd
    subst hd
    by_cases h256 : x < 256
    · rw [has_ofS _ h256] at h2
      simp at h2
      rw [h2]
    · have e : (ofS [c]).getD (x / 64) 0 = 0 := by
        have := (ofS_set [c]).1
        rw [List.getD_eq_getElem?_getD, List.getElem?_eq_none (by omega)]
        rfl
      unfold has at h2
      rw [e, Nat.zero_testBit] at h2
      cases h2
  · rintro rfl
    refine ⟨rfl, c.toNat, rfl, ?_⟩
    rw [has_ofS _ (UInt8.toNat_lt c)]
    simp
theorem m_B {s : List Nat} : Am.mt s tB 0 s.length ↔ s = [98] := m_set
theorem m_A {s : List Nat} : Am.mt s tA 0 s.length ↔ s = [97] ∨ s = [98] := by
  unfold tA Am.mt Am.mtA Am.mtA Am.mtA
  rw [m_set, m_set]
  simp
theorem rulAB (s : List Nat) (r : Nat) : rul au (runs au.E au.first.toNat s) r ↔ (r = 0 ∧ (s = [97] ∨ s = [98])) ∨ (r = 1 ∧ s = [98]) := by
  unfold au
  rw [auQ_rul okTAB, trsAB]
  match r with
  | 0 => simp [m_A]
  | 1 => simp [m_B]
  | r + 2 => simp
theorem run_b {C : List Int} (h : isL C (rul au (runs au.E au.first.toNat [98]))) : C = [0, 1] :=
  isL.ext (Q := fun r => r = 0 ∨ r = 1) h ⟨by simp [asc], fun x => by
    constructor
    · intro h; simp at h; rcases h with rfl | rfl
      · exact ⟨0, rfl, .inl rfl⟩
      · exact ⟨1, rfl, .inr rfl⟩
    · rintro ⟨q, rfl, rfl | rfl⟩ <;> simp⟩ (fun q => by rw [rulAB]; simp)
theorem run_a {C : List Int} (h : isL C (rul au (runs au.E au.first.toNat [97]))) : C = [0] :=
  isL.ext (Q := fun r => r = 0) h ⟨by simp [asc], fun x => by simp⟩ (fun q => by rw [rulAB]; simp)
theorem run_ab {C : List Int} (h : isL C (rul au (runs au.E au.first.toNat [97, 98]))) : C = [] :=
  isL.ext (Q := fun _ => False) h isL_nil (fun q => by rw [rulAB]; simp)
end Go.Proofs.Ythjelilmlbbalaa.Ol
