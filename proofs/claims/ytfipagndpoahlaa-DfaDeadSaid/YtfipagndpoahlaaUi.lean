/-
  The reference's Light and Same (layer 18).
  Conditions: none but the automaton's cells.
-/
import Derived.Test.YtfipagndpoahlaaUh
namespace Go.Proofs.Ytfipagndpoahlaa.Ui
open Go.RowKit Go.PlainAid Go.Proofs.Ytfipagndpoahlaa.Bw Go.Proofs.Ytfipagndpoahlaa.Na Go.Proofs.Ytfipagndpoahlaa.Ko Go.Proofs.Ytfipagndpoahlaa.Ua Go.Proofs.Ytfipagndpoahlaa.Ub Go.Proofs.Ytfipagndpoahlaa.Uc Go.Proofs.Ytfipagndpoahlaa.Ud Go.Proofs.Ytfipagndpoahlaa.Ue Go.Proofs.Ytfipagndpoahlaa.Uf

/-- Some truth is answered. -/
def someB (w : World) (e : Ending) (w' : World) : Prop := ∃ b, e = .returned (.bool b) ∧ Below w.heap.size w w'
set_option maxHeartbeats 2000000 in
set_option maxRecDepth 100000 in
theorem Light_any {w : World} {V : Array Value} {D : Df} (H : Hid (dfa w V D)) :
    Calls Try.prog 7 #[.agg V] w fun e w' => someB w e w' := by
  obtain ⟨A1, c1, A2, c2, H⟩ := H.out
  have H := Lib.hid H
  obtain ⟨K, hK⟩ : ∃ K, K = D.nx.length := ⟨_, rfl⟩
  obtain ⟨M, hM⟩ : ∃ M, M = D.ru.length := ⟨_, rfl⟩
  obtain ⟨w1, hw1⟩ : ∃ w1, w1 = w.alloc (.cells V 26) := ⟨_, rfl⟩
  have B1 : Hid (Below w.heap.size w w1) := Lib.hid (by rw [hw1]; exact below_alloc _ _)
  have K1 : Hid (Blk w1 w.heap.size 26 V) := Lib.hid (by rw [hw1]; exact Blk.fresh _ _ _)
  have HD1 : Hid (∀ u, Below w1.heap.size w1 u → u.cell? ⟨w.heap.size, 256, none⟩ = some (.slice A1 K c1) ∧ u.cell? ⟨w.heap.size, 257, none⟩ = some (.slice A2 M c2)) := Lib.hid (fun u k => ⟨((K1.out.below k).cell 256).trans (by rw [hK]; exact H.out.vn), ((K1.out.below k).cell 257).trans (by rw [hM]; exact H.out.vr)⟩)
  obtain ⟨d1, d2⟩ := HD1.out w1 (Below.refl _ _)
  have HKK := Lib.hid hK
  clear hK hM
  by_cases h1 : 1100 < K
  · have g1 : (1100 : Int) < (K : Int) := by omega
    clear h1
    go_enter Try.func7, Try.ntmps7
    go_upto_region 1 with fail
    rw [← hw1]
    clear hw1
    go_wp2
    go_ret
    exact ⟨_, rfl, B1.out⟩
  by_cases h2 : 1100 < M
  · have g1 : ¬ (1100 : Int) < (K : Int) := by omega
    have g2 : (1100 : Int) < (M : Int) := by omega
    clear h1 h2
    go_enter Try.func7, Try.ntmps7
    go_upto_region 1 with fail
    rw [← hw1]
    clear hw1
    go_wp2
    go_ret
    exact ⟨_, rfl, B1.out⟩
  have g1 : ¬ (1100 : Int) < (K : Int) := by omega
  have g2 : ¬ (1100 : Int) < (M : Int) := by omega
  have hK9 : K ≤ 1100 := by omega
  clear h1 h2
  go_enter Try.func7, Try.ntmps7
  go_upto_region 1 with fail
  rw [← hw1]
  clear hw1
  go_wp2
  clear d1 d2 g1 g2
  go_loopw [4, 3] (fun s4 s3 wr => ∃ (i : Nat) (z : Int), s4 = .int .i64 (i : Int) ∧ s3 = .int .i64 z ∧ i ≤ K ∧ Hid (Below w1.heap.size w1 wr)) (fun s4 _ _ => K - (intOf s4).toNat)
  case atStart => exact ⟨0, 0, rfl, rfl, by omega, Lib.hid (Below.refl _ _)⟩
  case round =>
    obtain ⟨i, z, rfl, rfl, hi, HB⟩ := hrel
    obtain ⟨d1, d2⟩ := HD1.out wr HB.out
    by_cases hin : i < K
    · have hin' : (i : Int) < (K : Int) := by omega
      have hi0 : (0 : Int) ≤ (i : Int) := by omega
      have HIN := Lib.hid hin
      obtain ⟨l, hl⟩ : ∃ l, D.nx[i]? = some l := ⟨_, List.getElem?_eq_getElem (by rw [← HKK.out]; exact hin)⟩
      obtain ⟨b1, o1, rfl, hb1, A', c', hrw, hlc, hlm, hr⟩ := (H.out.n.below (grows B1.out HB.out)) i l hl
      obtain ⟨X, hX⟩ : ∃ X, X = l.length := ⟨_, rfl⟩
      rw [← hX] at hrw
      clear hl hr hb1 hlc hlm hX hin
      by_cases hy : 300000 < wrap64 (z + (X : Int))
      · go_wp2
        go_ret
        exact ⟨_, rfl, grows B1.out HB.out⟩
      · go_wp2
        have hin := HIN.out
        go_roundw
        case rel => exact ⟨i + 1, _, by go_num, rfl, by omega, HB⟩
        case measure => simp [intOf]; omega
    · have hin' : ¬ (i : Int) < (K : Int) := by omega
      clear hin hi
      go_wp2
      go_ret
      exact ⟨_, rfl, grows B1.out HB.out⟩

theorem at_ext {l l' : List Int} (h : l.length = l'.length) (e : ∀ b, b < l.length → at' l b = at' l' b) : l = l' := by
  refine List.ext_getElem? (fun i => ?_)
  by_cases hi : i < l.length
  · rw [at_get hi, at_get (by omega), e i hi]
  · rw [List.getElem?_eq_none (by omega), List.getElem?_eq_none (by omega)]
theorem same_iff {l l' : List Int} (h : l.length = 256) (h' : l'.length = 256) : same256 (at' l) (at' l') = true ↔ l = l' := by
  unfold same256
  rw [List.all_eq_true]
  constructor
  · intro k
    refine at_ext (by omega) (fun b hb => ?_)
    have := k b (by simp; omega)
    simpa using this
  · rintro rfl i _
    simp
theorem df_ext {D E : Df} (h1 : D.nx = E.nx) (h2 : D.cl = E.cl) (h3 : D.ru = E.ru) : D = E := by
  cases D; cases E; simp at h1 h2 h3; simp [h1, h2, h3]
/-- The load of the classes as two rules of the walk. -/
theorem size_cls : ∃ N : Nat, N = 256 ∧ ∀ w, (sizeOf 22).run Try.prog w = .ok N w := ⟨256, rfl, Try.sizeOf22⟩
theorem load_cls {w0 : World} {V : Array Value} {A1 A2 : Option Addr} {c1 c2 : Nat} {D : Df} (h : dfv w0 V A1 c1 A2 c2 D) {g N : Nat} (hN : N = 256) (w : World) (k : Blk w g 26 V) : (loadCellsFrom ⟨g, 0, none⟩ 0 N #[]).run Try.prog w = .ok (arr 256 (at' D.cl)) w := by
  subst hN
  have := run_loadCells_list (P := Try.prog) w ⟨g, 0, none⟩ (arr 256 (at' D.cl)).toList (fun j v hv => by
    have hj : j < 256 := by have := (List.getElem?_eq_some_iff.1 hv).1; simpa [arr_size] using this
    have hadd : (⟨g, 0, none⟩ : Addr).add j = ⟨g, j, none⟩ := by unfold Addr.add; split <;> simp_all
    rw [hadd, k.cell j, h.vc hj]
    rw [Array.getElem?_toList, arr_get _ hj] at hv
    exact hv)
  simpa [loadCells, arr_size] using this
end Go.Proofs.Ytfipagndpoahlaa.Ui
