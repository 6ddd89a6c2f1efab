/-
  The reference's Join of rows of nodes (layer 17's known() reads two texts).
  The reference's Edges (layer 17): how many edges an automaton has; more than it may be gone through: -1.
  Conditions: as each theorem says.
-/
import Derived.Test.YthjelilmlbbalaaPan
import Derived.Test.YthjelilmlbbalaaPak
namespace Go.Proofs.Ythjelilmlbbalaa.Og
open Go.RowKit Go.Proofs.Ythjelilmlbbalaa.Vm Go.Proofs.Ythjelilmlbbalaa.Vo Go.Proofs.Ythjelilmlbbalaa.Bw Go.Proofs.Ythjelilmlbbalaa.Na Go.Proofs.Ythjelilmlbbalaa.Ko Go.Proofs.Ythjelilmlbbalaa.Tm Go.Proofs.Ythjelilmlbbalaa.Ts Go.Proofs.Ythjelilmlbbalaa.Ta Go.Proofs.Ythjelilmlbbalaa.Tb Go.Proofs.Ythjelilmlbbalaa.Tf Go.Proofs.Ythjelilmlbbalaa.Rm Go.Proofs.Ythjelilmlbbalaa.Rv Go.Proofs.Ythjelilmlbbalaa.Ra Go.Proofs.Ythjelilmlbbalaa.Re Go.Proofs.Ythjelilmlbbalaa.Rk Go.Proofs.Ythjelilmlbbalaa.Rn Go.Proofs.Ythjelilmlbbalaa.Ed Go.Proofs.Ythjelilmlbbalaa.Ee Go.Proofs.Ythjelilmlbbalaa.En Go.Proofs.Ythjelilmlbbalaa.Aq

theorem nw_readT {w : World} {base : Nat} {v : Value} {l : List Nd} (h : nw w base v l) (ho : ∀ x ∈ l, ndOk x) : sT w v l := by
  obtain ⟨A, cap, e, hc, hn⟩ := h.read ho
  refine ⟨A, cap, e, hc, hn, fun ad ha _ => ?_⟩
  rcases h.2 with ⟨e0, _⟩ | ⟨g, _, cur, e1, _, hh, _⟩
  · rw [e0] at e; injection e with e2 _ _; rw [← e2] at ha; cases ha
  · rw [e1] at e
    injection e with e2 _ _
    rw [← e2] at ha
    injection ha with ha
    subst ha
    exact ⟨cur, hh⟩
/-- A row of lists of nodes. -/
def rows (w : World) (v : Value) (ls : List (List Nd)) : Prop := ∃ base L, vs w base 35 v L ∧ L.length = ls.length ∧ ∀ (j : Nat) l, ls[j]? = some l → ∃ x, L[j]? = some x ∧ sT w x l
theorem rows_nil (w : World) : rows w (.slice none 0 0) [] := ⟨0, [], vs_nil _ _ _, rfl, fun j l h => by simp at h⟩
theorem rows.below {w w' : World} {v : Value} {ls : List (List Nd)} (h : rows w v ls) (k : Below w.heap.size w w') : rows w' v ls := by
  obtain ⟨base, L, h1, h2, h3⟩ := h
  exact ⟨base, L, h1.below k, h2, fun j l hj => by obtain ⟨x, hx, hs⟩ := h3 j l hj; exact ⟨x, hx, hs.below k⟩⟩
theorem rows.form {w : World} {v : Value} {ls : List (List Nd)} (h : rows w v ls) : ∃ A cap, v = .slice A ls.length cap := by
  obtain ⟨base, L, h1, h2, _⟩ := h
  obtain ⟨A, cap, rfl, _⟩ := h1.le
  exact ⟨A, cap, by rw [h2]⟩
theorem take_flat {ls : List (List Nd)} {j : Nat} {l : List Nd} (h : ls[j]? = some l) : (ls.take (j + 1)).flatten = (ls.take j).flatten ++ l := by
  rw [List.take_add_one, h]
  simp
theorem flat_le {ls : List (List Nd)} (j : Nat) : (ls.take j).flatten.length ≤ ls.flatten.length := by
  conv => rhs; rw [← List.take_append_drop j ls]
  rw [List.flatten_append, List.length_append]
  omega
/-- A node with so many children. -/
def wN (x : Nd) (n : Nat) : Nd := ⟨x.k, n, x.s, x.lo, x.hi⟩
set_option maxHeartbeats 2000000 in
set_option maxRecDepth 100000 in
theorem rJoin_any {x : Nd} (hx : ndOk x) {v : Value} {ls : List (List Nd)} (hN : ls.flatten.length ≤ 999000) (hls : ls.length ≤ 999000) {w : World} (H : Hid (rows w v ls)) :
    Calls Try.prog 77 #[.agg (cN x).toArray, v] w fun e w' => ∃ v', e = .returned v' ∧ sT w' v' (wN x ls.length :: ls.flatten) ∧ Below w.heap.size w w' := by
  obtain ⟨A, cap, rfl⟩ := H.out.form
  obtain ⟨n, hn⟩ : ∃ n, n = ls.length := ⟨_, rfl⟩
  have HN := Lib.hid hn
  rw [← hn] at hls
  rw [← hn]
  have hH := H.out
  rw [← hn] at hH
  obtain ⟨base, L, hv, hL, hr⟩ := hH
  have HV := Lib.hid hv
  have HR := Lib.hid hr
  have HL := Lib.hid hL
  clear hn H hv hr hL
  obtain ⟨x0, x1, x2, x3, hs, hc⟩ := cN_four hx.s
  rw [hc]
  have HX : Hid (ndOk (wN x n)) := Lib.hid ⟨hx.s, hx.ik, by unfold wN in64; dsimp only; omega, hx.il, hx.ih⟩
  have HCN : Hid (cN (wN x n) = [.int .i64 x.k, .int .i64 (n : Int), .int .u64 (x0 : Int), .int .u64 (x1 : Int), .int .u64 (x2 : Int), .int .u64 (x3 : Int), .int .i64 x.lo, .int .i64 x.hi]) := Lib.hid (by unfold cN wN; dsimp only; rw [hs]; rfl)
  obtain ⟨xk, hxk⟩ : ∃ z, z = x.k := ⟨_, rfl⟩
  obtain ⟨xl, hxl⟩ : ∃ z, z = x.lo := ⟨_, rfl⟩
  obtain ⟨xh, hxh⟩ : ∃ z, z = x.hi := ⟨_, rfl⟩
  obtain ⟨xn, hxn⟩ : ∃ z, z = x.n := ⟨_, rfl⟩
  rw [← hxk, ← hxl, ← hxh] at HCN
  rw [← hxk, ← hxl, ← hxh, ← hxn]
  obtain ⟨X, hX⟩ : ∃ X, X = wN x n := ⟨_, rfl⟩
  rw [← hX] at HCN HX ⊢
  clear hs hc hx hxk hxl hxh hxn hX
  go_enter Try.func77, Try.ntmps77
  go_wp2
  obtain ⟨i0, hi, hz0, hz1, hz2⟩ := info_parts infoNd
  obtain ⟨W, hW⟩ : ∃ W, W = (w.alloc (.cells #[.int .i64 xk, .int .i64 (n : Int), .int .u64 (x0 : Int), .int .u64 (x1 : Int), .int .u64 (x2 : Int), .int .u64 (x3 : Int), .int .i64 xl, .int .i64 xh] 79)).alloc (.cells #[.int .i64 xk, .int .i64 (n : Int), .int .u64 (x0 : Int), .int .u64 (x1 : Int), .int .u64 (x2 : Int), .int .u64 (x3 : Int), .int .i64 xl, .int .i64 xh] 79) := ⟨_, rfl⟩
  rw [← hW]
  have HW1 : Hid (Below w.heap.size w W) := Lib.hid (by rw [hW]; exact (below_alloc w _).alloc (by rw [size_alloc]; omega) _)
  have HW2 : Hid (nw W w.heap.size (.slice (some ⟨w.heap.size + 1, 0, none⟩) 1 1) [X]) := Lib.hid (by
    have e : Nc [X] = [.int .i64 xk, .int .i64 (n : Int), .int .u64 (x0 : Int), .int .u64 (x1 : Int), .int .u64 (x2 : Int), .int .u64 (x3 : Int), .int .i64 xl, .int .i64 xh] := by show cN X ++ [] = _; rw [HCN.out]; rfl
    unfold nw
    rw [e]
    refine ⟨rfl, .inr ⟨w.heap.size + 1, 1, _, rfl, by omega, by rw [hW, ← size_alloc w (.cells #[.int .i64 xk, .int .i64 (n : Int), .int .u64 (x0 : Int), .int .u64 (x1 : Int), .int .u64 (x2 : Int), .int .u64 (x3 : Int), .int .i64 xl, .int .i64 xh] 79)]; exact heap_alloc_new _ _, Nat.le_refl _, by unfold maxLen; omega, rfl, rfl⟩⟩)
  clear hW HCN
  go_loopw [5, 6] (fun s5 s15 wr => ∃ (j : Nat) (v5 : Value), s5 = v5 ∧ s15 = .int .i64 (j : Int) ∧ j ≤ n ∧ Hid (nw wr w.heap.size v5 (X :: (ls.take j).flatten)) ∧ Hid (∀ y ∈ (ls.take j).flatten, ndOk y) ∧ Hid (Below w.heap.size w wr)) (fun _ s15 _ => n - (intOf s15).toNat)
  case atStart => exact ⟨0, _, rfl, rfl, Nat.zero_le _, by simpa using HW2, Lib.hid (by simp), HW1⟩
  case round =>
    obtain ⟨j, v5, rfl, rfl, hj, HNW, HOK, HB⟩ := hrel
    by_cases hjn : j < n
    · have hj1 : (j : Int) < (n : Int) := by omega
      have hj0 : (0 : Int) ≤ (j : Int) := by omega
      obtain ⟨l, hl⟩ : ∃ l, ls[j]? = some l := ⟨_, List.getElem?_eq_getElem (by rw [← HN.out]; exact hjn)⟩
      obtain ⟨xv, hxv, A2, c2, rfl, hc2, hnd, _⟩ := HR.out j l hl
      obtain ⟨g, hg, hgl, hcell⟩ := (HV.out.below HB.out).cell hxv
      subst hg
      have HJN := Lib.hid hjn
      have HND := Lib.hid hnd
      have HNX : Hid (X :: (ls.take (j + 1)).flatten = (X :: (ls.take j).flatten) ++ l) := Lib.hid (by rw [take_flat hl]; rfl)
      have HOK' : Hid (∀ y ∈ (ls.take (j + 1)).flatten, ndOk y) := Lib.hid (by
        rw [take_flat hl]
        intro y hy
        rcases List.mem_append.1 hy with h | h
        · exact HOK.out y h
        · exact nds_ok HND.out y h)
      have HLE : Hid ((X :: (ls.take j).flatten).length + l.length ≤ 1000000) := Lib.hid (by
        have h1 := flat_le (ls := ls) (j + 1)
        rw [take_flat hl, List.length_append] at h1
        rw [List.length_cons]; omega)
      obtain ⟨A5, c5, hv5, hc5⟩ := HNW.out.le
      subst hv5
      have HS := Lib.hid HB.out.size
      obtain ⟨xs, hxs⟩ : ∃ xs, xs = X :: (ls.take j).flatten := ⟨_, rfl⟩
      rw [← hxs] at HNW HNX HLE hc5
      rw [← hxs]
      obtain ⟨m, hm⟩ : ∃ m, m = xs.length := ⟨_, rfl⟩
      have HM := Lib.hid hm
      have HOW : Hid (wr.ownsRow w.heap.size 79 8 (.slice A5 m c5) m (Nc xs)) := Lib.hid (by have := HNW.out; unfold nw at this; rw [← hm] at this; exact this)
      rw [← hm] at HLE hc5 ⊢
      obtain ⟨q, hq⟩ : ∃ q, q = l.length := ⟨_, rfl⟩
      have HQ := Lib.hid hq
      rw [← hq] at hcell HLE
      clear hl hxv hnd hjn hxs hm hgl hc2 hq HR
      cases A2 with
      | none =>
        have hl0 : l = [] := by
          cases l with
          | nil => rfl
          | cons y l => obtain ⟨_, _, e0, _⟩ := HND.out 0 y rfl; cases e0
        have hq0 : q = 0 := by have := HQ.out; rw [hl0] at this; exact this
        subst hq0
        subst hl0
        have HNX2 : Hid (X :: (ls.take (j + 1)).flatten = xs) := Lib.hid (by have := HNX.out; simpa using this)
        go_wp2_with (at_builtin; refine wpList_append_none _ rfl _ _ 35 rfl 79 i0 Try.underlying35 hi A5 m c5 c2 hc5 rfl rfl ?_)
        go_roundw
        case rel => exact ⟨j + 1, _, rfl, by go_num, by have := HJN.out; omega, Lib.hid (by rw [HNX2.out, HM.out]; exact HNW.out), HOK', HB⟩
        case measure => have := HJN.out; simp [intOf]; omega
      | some ad =>
        obtain ⟨b, off, sp⟩ := ad
        go_wp2_with (at_builtin; refine wpList_append_own_at _ rfl _ _ 35 rfl w.heap.size 79 i0 _ 8 64 Try.underlying35 hi hz0 hz1 hz2 rfl (by decide) _ m (Nc xs) rfl HOW.out ⟨b, off, sp⟩ q c2 (Nc l) rfl ?a1 ?a2 (Nc_one l) ?a3 ?a4 ?a5 ?_)
        case a1 => rw [Nc_len (nds_ok HND.out), ← HQ.out]
        case a2 =>
          intro k u hu
          cases hl0 : l with
          | nil => rw [hl0] at hu; simp [Nc] at hu
          | cons y l' =>
            obtain ⟨b', off', e0, _⟩ := HND.out 0 y (by rw [hl0]; rfl)
            injection e0 with e0
            injection e0 with e1 e2 e3
            subst e1; subst e2; subst e3
            exact nds_cell (HND.out.below HB.out) k u hu
        case a3 => have := HLE.out; unfold maxLen; omega
        case a4 => have := HLE.out; omega
        case a5 => exact HS.out
        intro v3 w3 h3 g3 _ _
        have HNW3 : Hid (nw w3 w.heap.size v3 (X :: (ls.take (j + 1)).flatten)) := Lib.hid (by
          rw [HNX.out]
          unfold nw
          rw [Nc_append, List.length_append, ← HM.out, ← HQ.out]
          exact h3)
        have HB3 : Hid (Below w.heap.size w w3) := Lib.hid (HB.out.grown g3 HS.out (fun k hk => (World.ownsRow.lt HOW.out k hk).1))
        clear h3 g3
        go_wp2
        go_roundw
        case rel => exact ⟨j + 1, v3, rfl, by go_num, by have := HJN.out; omega, HNW3, HOK', HB3⟩
        case measure => have := HJN.out; simp [intOf]; omega
    · obtain rfl : j = n := by omega
      have hj1 : ¬ (j : Int) < (j : Int) := by omega
      go_wp2
      go_ret
      refine ⟨_, rfl, ?_, HB.out⟩
      have e : ls.take j = ls := List.take_of_length_le (by rw [← HN.out]; exact Nat.le_refl _)
      have h1 := HNW.out
      have h2 := HOK.out
      rw [e] at h1 h2
      refine nw_readT h1 (fun y hy => ?_)
      rcases List.mem_cons.1 hy with rfl | h
      · exact HX.out
      · exact h2 y h
end Go.Proofs.Ythjelilmlbbalaa.Og
namespace Go.Proofs.Ythjelilmlbbalaa.As
open Go.RowKit Go.Proofs.Ythjelilmlbbalaa.Bw Go.Proofs.Ythjelilmlbbalaa.Na Go.Proofs.Ythjelilmlbbalaa.Ko Go.Proofs.Ythjelilmlbbalaa.Tm Go.Proofs.Ythjelilmlbbalaa.Tf Go.Proofs.Ythjelilmlbbalaa.Rm Go.Proofs.Ythjelilmlbbalaa.Ra Go.Proofs.Ythjelilmlbbalaa.An Go.Proofs.Ythjelilmlbbalaa.Ac Go.Proofs.Ythjelilmlbbalaa.Aa Go.Proofs.Ythjelilmlbbalaa.Aw Go.Proofs.Ythjelilmlbbalaa.Ax Go.Proofs.Ythjelilmlbbalaa.Ab

/-- What Edges answers: a number that is not below 0 only where there are few. -/
def ansE (A : Au) (w : World) (e : Ending) (w' : World) : Prop := ∃ k : Int, e = .returned (.int .i64 k) ∧ (0 ≤ k → A.E.length ≤ 3100 ∧ A.R.length ≤ 3100 ∧ ∀ l ∈ A.E, l.length ≤ 200) ∧ Below w.heap.size w w'
set_option maxHeartbeats 4000000 in
set_option maxRecDepth 100000 in
theorem rEdges_any {A : Au} {A1 A2 : Option Addr} {c1 c2 : Nat} {w : World} (H : Hid (nfa w A1 A2 A)) :
    Calls Try.prog 19 #[nv A1 A2 c1 c2 A] w fun e w' => ansE A w e w' := by
  unfold nv
  obtain ⟨K, hK⟩ : ∃ K, K = A.E.length := ⟨_, rfl⟩
  obtain ⟨M, hMM⟩ : ∃ M, M = A.R.length := ⟨_, rfl⟩
  obtain ⟨F, hF⟩ : ∃ F, F = A.first := ⟨_, rfl⟩
  have HKE := Lib.hid hK
  have HME := Lib.hid hMM
  rw [← hK, ← hMM, ← hF]
  obtain ⟨w1, hw1⟩ : ∃ w1, w1 = w.alloc (.cells #[.slice A1 K c1, .int .i64 F, .slice A2 M c2] 28) := ⟨_, rfl⟩
  have B1 : Hid (Below w.heap.size w w1) := Lib.hid (by rw [hw1]; exact below_alloc _ _)
  have K1 : Hid (Blk w1 w.heap.size 28 #[.slice A1 K c1, .int .i64 F, .slice A2 M c2]) := Lib.hid (by rw [hw1]; exact Blk.fresh _ _ _)
  have d0 : w1.cell? ⟨w.heap.size, 0, none⟩ = some (.slice A1 K c1) := K1.out.cell 0
  have d2 : w1.cell? ⟨w.heap.size, 2, none⟩ = some (.slice A2 M c2) := K1.out.cell 2
  clear hK hMM hF
  by_cases h1 : 3100 < K
  · have g1 : (3100 : Int) < (K : Int) := by omega
    clear h1
    go_enter Try.func19, Try.ntmps19
    go_upto_region 1 with fail
    rw [← hw1]
    clear hw1
    go_wp2
    go_ret
    exact ⟨_, rfl, fun h => absurd h (by decide), B1.out⟩
  · have g1 : ¬ (3100 : Int) < (K : Int) := by omega
    have H1 := Lib.hid h1
    by_cases h2 : 3100 < M
    · have g2 : (3100 : Int) < (M : Int) := by omega
      clear h1 h2
      go_enter Try.func19, Try.ntmps19
      go_upto_region 1 with fail
      rw [← hw1]
      clear hw1
      go_wp2
      go_ret
      exact ⟨_, rfl, fun h => absurd h (by decide), B1.out⟩
    · have g2 : ¬ (3100 : Int) < (M : Int) := by omega
      have H2 := Lib.hid h2
      have hK9 : K ≤ 3100 := by omega
      clear h1 h2
      go_enter Try.func19, Try.ntmps19
      go_upto_region 1 with fail
      rw [← hw1]
      clear hw1
      go_wp2
      clear d0 d2 g1 g2
      go_loopw [3, 4] (fun s3 s4 wr => ∃ i k : Nat, s3 = .int .i64 (k : Int) ∧ s4 = .int .i64 (i : Int) ∧ i ≤ K ∧ k ≤ i * 200 ∧ Hid (∀ a l, a < i → A.E[a]? = some l → l.length ≤ 200) ∧ Hid (Below w1.heap.size w1 wr)) (fun _ s4 _ => K - (intOf s4).toNat)
      case atStart => exact ⟨0, 0, rfl, rfl, by omega, by omega, Lib.hid (fun a l ha => absurd ha (by omega)), Lib.hid (Below.refl _ _)⟩
      case round =>
        obtain ⟨i, k, rfl, rfl, hi, hk, HA, HB⟩ := hrel
        have d0 := (HB.out.cell (p := ⟨w.heap.size, 0, none⟩) K1.out.lt).trans (K1.out.cell 0)
        have HBW := Lib.hid (grows B1.out HB.out)
        by_cases hiN : i < K
        · have hiN' : (i : Int) < (K : Int) := by omega
          have hi0 : (0 : Int) ≤ (i : Int) := by omega
          have HIN := Lib.hid hiN
          obtain ⟨l, hl⟩ : ∃ l, A.E[i]? = some l := ⟨_, List.getElem?_eq_getElem (by rw [← HKE.out]; exact hiN)⟩
          have HL := Lib.hid hl
          obtain ⟨b1, o1, rfl, hb1, A', c', hrow, _, _⟩ := (H.out.e.below HBW.out) i l hl
          obtain ⟨X, hX⟩ : ∃ X, X = l.length := ⟨_, rfl⟩
          have HXL := Lib.hid hX
          rw [← hX] at hrow
          have hk9 : k ≤ 1000000 := by omega
          have HKK := Lib.hid hk
          clear hl hiN hb1 hX hk
          by_cases hx : 200 < X
          · have hx' : (200 : Int) < (X : Int) := by omega
            clear hx
            go_wp2
            go_ret
            exact ⟨_, rfl, fun h => absurd h (by decide), HBW.out⟩
          · have hx' : ¬ (200 : Int) < (X : Int) := by omega
            have HX2 : Hid (X ≤ 200) := Lib.hid (by omega)
            have hX2 : X ≤ 200 := by omega
            clear hx
            have HK2 : Hid (k + X ≤ (i + 1) * 200) := Lib.hid (by have := HKK.out; omega)
            go_wp2
            go_roundw
            case rel => exact ⟨i + 1, k + X, by go_num, by go_num, by have := HIN.out; omega, HK2.out, Lib.hid (fun a l' ha hl' => by
              rcases (show a < i ∨ a = i by omega) with h | rfl
              · exact HA.out a l' h hl'
              · rw [HL.out] at hl'
                obtain rfl := Option.some.inj hl'
                rw [← HXL.out]; exact HX2.out), HB⟩
            case measure => have := HIN.out; simp [intOf]; omega
        · have hiN' : ¬ (i : Int) < (K : Int) := by omega
          have HR : Hid (A.E.length ≤ 3100 ∧ A.R.length ≤ 3100 ∧ ∀ l ∈ A.E, l.length ≤ 200) := Lib.hid ⟨by rw [← HKE.out]; exact hK9, by rw [← HME.out]; have := H2.out; omega, fun l hl => by
            obtain ⟨a, ha⟩ := List.mem_iff_getElem?.1 hl
            exact HA.out a l (by have := (List.getElem?_eq_some_iff.1 ha).1; have := HKE.out; omega) ha⟩
          clear hiN hk
          go_wp2
          go_ret
          exact ⟨_, rfl, fun _ => HR.out, HBW.out⟩
end Go.Proofs.Ythjelilmlbbalaa.As
