/-
  countClasses and step of layer 18.
  Conditions: as each theorem says.
-/
import Derived.Test.YtfipagndpoahlaaUc
namespace Go.Proofs.Ytfipagndpoahlaa.Ud
open Go.RowKit Go.Proofs.Ytfipagndpoahlaa.Bw Go.Proofs.Ytfipagndpoahlaa.Na Go.Proofs.Ytfipagndpoahlaa.Ko Go.Proofs.Ytfipagndpoahlaa.Ua Go.Proofs.Ytfipagndpoahlaa.Ub Go.Proofs.Ytfipagndpoahlaa.Uc

theorem run_index_ints {F : Array Value} {k : Nat} (hk : k < 256) {x : Value} (hx : F[k]? = some x) (w : World) :
    (Instr.index 22 (.agg F) (.int .i64 (k : Int))).run Try.prog w = .ok x w := by
  simp [Instr.index, run_underlying Try.underlying22, asIntOf, hk, hx, go_sem]
/-- What countClasses answers. -/
def cntV : Option Nat → Value
  | some m => .tuple #[.int .i64 (m : Int), .bool true]
  | none => .tuple #[.int .i64 0, .bool false]
theorem drop_at {l : List Int} {i : Nat} (h : i < l.length) : l.drop i = at' l i :: l.drop (i + 1) := by
  rw [List.drop_eq_getElem_cons h]
  congr 1
  unfold at'
  rw [List.getD_eq_getElem?_getD, List.getElem?_eq_getElem h]; rfl
set_option maxHeartbeats 1000000 in
set_option maxRecDepth 100000 in
theorem count_any {w : World} {V : Array Value} {D : Df} (H : Hid (dfa w V D)) :
    Calls Try.prog 23 #[.agg V] w fun e w' => e = .returned (cntV (clsQ D.cl 0)) ∧ Below w.heap.size w w' := by
  obtain ⟨A1, c1, A2, c2, H⟩ := H.out
  have H := Lib.hid H
  obtain ⟨w1, hw1⟩ : ∃ w1, w1 = w.alloc (.cells V 26) := ⟨_, rfl⟩
  have B1 : Hid (Below w.heap.size w w1) := Lib.hid (by rw [hw1]; exact below_alloc _ _)
  have K1 : Hid (Blk w1 w.heap.size 26 V) := Lib.hid (by rw [hw1]; exact Blk.fresh _ _ _)
  obtain ⟨F, hF⟩ : ∃ F, F = arr 256 (at' D.cl) := ⟨_, rfl⟩
  have HP : Hid (∀ j, j < F.size → w1.cell? ⟨w.heap.size, 0 + j, none⟩ = F[j]?) := Lib.hid (by rw [hF]; exact H.out.part K1.out)
  have HI : Hid ((Try.prog.info? 22).map (·.size) = some F.size) := Lib.hid (by rw [hF, arr_size]; exact infoC)
  have HF := Lib.hid hF
  clear hF
  go_enter Try.func23, Try.ntmps23
  go_upto_region 1 with fail
  rw [← hw1]
  clear hw1
  go_wp2_with (refine wpList_load_part rfl 22 _ rfl w.heap.size 0 rfl F _ HP.out Try.underlying22 rfl HI.out ?_)
  go_loopw [9, 4, 6] (fun s9 s4 _ wr => ∃ i k : Nat, s9 = .int .i64 (i : Int) ∧ s4 = .int .i64 (k : Int) ∧ i ≤ 256 ∧ k ≤ i ∧ Hid (clsQ D.cl 0 = clsQ (D.cl.drop i) k) ∧ Hid (Below w1.heap.size w1 wr)) (fun s9 _ _ _ => 256 - (intOf s9).toNat)
  case atStart => exact ⟨0, 0, rfl, rfl, by omega, by omega, Lib.hid rfl, Lib.hid (Below.refl _ _)⟩
  case round =>
    obtain ⟨i, k, rfl, rfl, hi, hk, HC, HB⟩ := hrel
    by_cases hin : i < 256
    · have hin' : (i : Int) < 256 := by omega
      have hi0 : (0 : Int) ≤ (i : Int) := by omega
      have HIN := Lib.hid hin
      obtain ⟨x, hx⟩ : ∃ x, x = at' D.cl i := ⟨_, rfl⟩
      have hix := run_index_ints (F := F) hin (x := .int .i64 x) (by rw [HF.out, hx]; exact arr_get _ hin)
      have HD : Hid (clsQ D.cl 0 = if x < 0 ∨ (k : Int) < x then none else clsQ (D.cl.drop (i + 1)) (if x = (k : Int) then k + 1 else k)) := Lib.hid (by
        rw [HC.out, drop_at (by rw [H.out.c]; exact hin), clsQ, ← hx])
      clear hx hin
      by_cases h1 : x < 0
      · have HO : Hid (cntV (clsQ D.cl 0) = .tuple #[.int .i64 0, .bool false]) := Lib.hid (by rw [HD.out, if_pos (.inl h1)]; rfl)
        go_wp2
        go_ret2
        exact ⟨by rw [HO.out]; rfl, grows B1.out HB.out⟩
      · by_cases h2 : (k : Int) < x
        · have HO : Hid (cntV (clsQ D.cl 0) = .tuple #[.int .i64 0, .bool false]) := Lib.hid (by rw [HD.out, if_pos (.inr h2)]; rfl)
          go_wp2
          go_ret2
          exact ⟨by rw [HO.out]; rfl, grows B1.out HB.out⟩
        · have HE : Hid (clsQ D.cl 0 = clsQ (D.cl.drop (i + 1)) (if x = (k : Int) then k + 1 else k)) := Lib.hid (by rw [HD.out, if_neg (by omega)])
          by_cases h3 : x = (k : Int)
          · have HE2 : Hid (clsQ D.cl 0 = clsQ (D.cl.drop (i + 1)) (k + 1)) := Lib.hid (by rw [HE.out, if_pos h3])
            subst h3
            go_wp2
            go_roundw
            case rel => exact ⟨i + 1, k + 1, by go_num, by go_num, by have := HIN.out; omega, by omega, HE2, HB⟩
            case measure => have := HIN.out; simp [intOf]; omega
          · have HE2 : Hid (clsQ D.cl 0 = clsQ (D.cl.drop (i + 1)) k) := Lib.hid (by rw [HE.out, if_neg h3])
            go_wp2
            go_roundw
            case rel => exact ⟨i + 1, k, by go_num, rfl, by have := HIN.out; omega, by omega, HE2, HB⟩
            case measure => have := HIN.out; simp [intOf]; omega
    · have hin' : ¬ (i : Int) < 256 := by omega
      have HO : Hid (cntV (clsQ D.cl 0) = .tuple #[.int .i64 (k : Int), .bool true]) := Lib.hid (by
        rw [HC.out, List.drop_eq_nil_of_le (by rw [H.out.c]; omega)]; rfl)
      clear hin hi
      go_wp2
      go_ret2
      exact ⟨by rw [HO.out]; rfl, grows B1.out HB.out⟩
/-- Where a byte leads, with the row and the place in it. -/
theorem okD_way {D : Df} (h : okD D) {p c : Nat} (hp : p < D.nx.length) (hc : c < 256) : ∃ l q, D.nx[p]? = some l ∧ at' D.cl c = ((q : Nat) : Int) ∧ q < l.length ∧ at' l q = ((tq D p c : Nat) : Int) ∧ tq D p c < D.nx.length := by
  obtain ⟨m, hm, hr⟩ := h.row
  have e : D.nx[p]? = some D.nx[p] := List.getElem?_eq_getElem hp
  obtain ⟨h1, h2⟩ := hr D.nx[p] (List.getElem_mem hp)
  have hcl : c < D.cl.length := by rw [h.c]; exact hc
  have hx := at_get hcl
  obtain ⟨g1, g2⟩ := clsQ_in hm _ (List.mem_of_getElem? hx)
  have hq : (at' D.cl c).toNat < (D.nx[p]).length := by rw [h1]; omega
  have hmem := List.mem_of_getElem? (at_get hq)
  obtain ⟨k1, k2⟩ := h2 _ hmem
  have ht : tq D p c = (at' D.nx[p] (at' D.cl c).toNat).toNat := by
    unfold tq at'
    rw [show D.nx.getD p [] = D.nx[p] from by rw [List.getD_eq_getElem?_getD, e]; rfl]
  exact ⟨_, (at' D.cl c).toNat, e, by omega, hq, by rw [ht]; omega, by rw [ht]; omega⟩
set_option maxHeartbeats 1000000 in
set_option maxRecDepth 100000 in
theorem step_any {w : World} {V : Array Value} {D : Df} {p c : Nat} (ho : okD D) (hp : p < D.nx.length) (hc : c < 256) (H : Hid (dfa w V D)) :
    Calls Try.prog 27 #[.agg V, .int .i64 (p : Int), .int .u8 (c : Int)] w fun e w' => e = .returned (.int .i64 (tq D p c : Nat)) ∧ Below w.heap.size w w' := by
  obtain ⟨A1, c1, A2, c2, H⟩ := H.out
  have H := Lib.hid H
  obtain ⟨w1, hw1⟩ : ∃ w1, w1 = w.alloc (.cells V 26) := ⟨_, rfl⟩
  have B1 : Hid (Below w.heap.size w w1) := Lib.hid (by rw [hw1]; exact below_alloc _ _)
  have K1 : Hid (Blk w1 w.heap.size 26 V) := Lib.hid (by rw [hw1]; exact Blk.fresh _ _ _)
  obtain ⟨l, q, hl, hq, hql, ht, _⟩ := okD_way ho hp hc
  obtain ⟨b1, o1, rfl, hb1, A', c', hrw, hlc, hlm, hr⟩ := (H.out.n.below B1.out) p l hl
  obtain ⟨b3, o3, rfl, hb3, hce⟩ := hr q hql
  obtain ⟨K, hK⟩ : ∃ K, K = D.nx.length := ⟨_, rfl⟩
  obtain ⟨X, hX⟩ : ∃ X, X = l.length := ⟨_, rfl⟩
  obtain ⟨t, htt⟩ : ∃ t, t = tq D p c := ⟨_, rfl⟩
  have d1 : w1.cell? ⟨w.heap.size, 256, none⟩ = some (.slice (some ⟨b1, o1, none⟩) K c1) := (K1.out.cell 256).trans (by rw [hK]; exact H.out.vn)
  have d0 : w1.cell? ⟨w.heap.size, c, none⟩ = some (.int .i64 (q : Int)) := (K1.out.cell c).trans (by rw [H.out.vc hc, hq])
  rw [ht, ← htt] at hce
  rw [← hX] at hrw hql hlm
  rw [← hK] at hp
  rw [← htt]
  have hp' : (p : Int) < (K : Int) := by omega
  have hql' : (q : Int) < (X : Int) := by omega
  have hc' : (c : Int) < 256 := by omega
  clear hK hX htt hl hq ht hr hb1 hb3 hlc ho H
  go_enter Try.func27, Try.ntmps27
  go_upto_region 1 with fail
  rw [← hw1]
  clear hw1
  go_quiet (fail)
  go_wp2
  go_ret
  exact ⟨rfl, grows B1.out (below_draws _ _)⟩
end Go.Proofs.Ytfipagndpoahlaa.Ud
