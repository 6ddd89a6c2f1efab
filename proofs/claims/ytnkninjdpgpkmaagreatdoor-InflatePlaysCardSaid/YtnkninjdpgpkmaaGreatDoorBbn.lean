/-
  A row of block starts of the call's own; slices.Clone of such a row, and of a row of bytes: new rows; nothing that was there has changed.
  Conditions: as each theorem says.
-/
import Derived.Test.YtnkninjdpgpkmaaGreatDoorBat
import Derived.Test.YtnkninjdpgpkmaaGreatDoorBau
import Derived.Maps.AppendAt
namespace Go.Proofs.YtnkninjdpgpkmaaGreatDoor.Ib
open Go.RowKit Go.Proofs.YtnkninjdpgpkmaaGreatDoor.Vm Go.Proofs.YtnkninjdpgpkmaaGreatDoor.Vo Go.Proofs.YtnkninjdpgpkmaaGreatDoor.Bw Go.Proofs.YtnkninjdpgpkmaaGreatDoor.Na Go.Proofs.YtnkninjdpgpkmaaGreatDoor.Wr Go.Proofs.YtnkninjdpgpkmaaGreatDoor.Wc Go.Proofs.YtnkninjdpgpkmaaGreatDoor.Ww Go.Proofs.YtnkninjdpgpkmaaGreatDoor.Ko Go.Proofs.YtnkninjdpgpkmaaGreatDoor.Ia

/-- Starts as cells. -/
def Ls (L : List (Nat × Nat)) : List Value := L.flatMap (fun x => [.int .i64 (x.1 : Int), .int .i64 (x.2 : Int)])
theorem Ls_cons (x : Nat × Nat) (L : List (Nat × Nat)) : Ls (x :: L) = .int .i64 (x.1 : Int) :: .int .i64 (x.2 : Int) :: Ls L := rfl
theorem Ls_length : ∀ L : List (Nat × Nat), (Ls L).length = L.length * 2
  | [] => rfl
  | x :: L => by rw [Ls_cons, List.length_cons, List.length_cons, Ls_length L, List.length_cons]; omega
theorem Ls_append (a b : List (Nat × Nat)) : Ls (a ++ b) = Ls a ++ Ls b := by simp [Ls]
theorem Ls_one (L : List (Nat × Nat)) : ∀ u ∈ Ls L, u.oneCell' = true := by
  intro u hu
  obtain ⟨x, _, hx⟩ := List.mem_flatMap.1 hu
  simp only [List.mem_cons, List.not_mem_nil, or_false] at hx
  rcases hx with rfl | rfl <;> rfl
theorem Ls_get : ∀ (L : List (Nat × Nat)) (i : Nat) (x : Nat × Nat), L[i]? = some x → (Ls L)[i * 2]? = some (.int .i64 (x.1 : Int)) ∧ (Ls L)[i * 2 + 1]? = some (.int .i64 (x.2 : Int))
  | [], _, _, h => by simp at h
  | y :: L, 0, x, h => by
    simp only [List.getElem?_cons_zero, Option.some.injEq] at h
    subst h
    exact ⟨rfl, rfl⟩
  | y :: L, i + 1, x, h => by
    rw [List.getElem?_cons_succ] at h
    have := Ls_get L i x h
    rw [Ls_cons, show (i + 1) * 2 = i * 2 + 1 + 1 by omega, show i * 2 + 1 + 1 + 1 = (i * 2 + 1) + 1 + 1 by omega]
    simpa using this
/-- A row of starts of the call's own. -/
def strt (base : Nat) (w : World) (v : Value) (L : List (Nat × Nat)) : Prop := w.ownsRow base 56 2 v L.length (Ls L)
section
variable {w w' : World} {base : Nat} {v : Value} {L : List (Nat × Nat)}
theorem strt_nil (w : World) (base : Nat) : strt base w (.slice none 0 0) [] := World.ownsRow_nil _ _ _ _
theorem strt.only {S : Nat → Prop} (h : strt base w v L) (k : Only S w w') (hv : ∀ i, v.ownBlock = some i → ¬ S i) : strt base w' v L := own_only h k hv
theorem strt.below (h : strt base w v L) (k : Below w.heap.size w w') : strt base w' v L := h.only (S := fun _ => False) (Only.of_below k) (fun _ _ e => e)
theorem strt.draws (h : strt base w v L) (n : Nat) : strt base (w.drewN n) v L := h
theorem strt.lower {b : Nat} (h : strt base w v L) (hb : b ≤ base) : strt b w v L := by
  refine ⟨h.1, ?_⟩
  rcases h.2 with h0 | ⟨g, cap, cur, e1, e2, e3⟩
  · exact .inl h0
  · exact .inr ⟨g, cap, cur, e1, Nat.le_trans hb e2, e3⟩
theorem strt.form (h : strt base w v L) : ∃ A cap, v = .slice A L.length cap ∧ (0 < L.length → ∃ b, A = some ⟨b, 0, none⟩ ∧ b < w.heap.size) := by
  have h' := h
  rcases h.2 with ⟨rfl, h0⟩ | ⟨g, cap, cur, rfl, _⟩
  · exact ⟨none, 0, by rw [h0], fun e => by omega⟩
  · exact ⟨_, cap, rfl, fun _ => ⟨g, rfl, (World.ownsRow.lt h' g rfl).2⟩⟩
theorem strt.lo (h : strt base w v L) : ∀ i, v.ownBlock = some i → base ≤ i ∧ i < w.heap.size := fun i hi => World.ownsRow.lt h i hi
theorem strt.cell {b n cap : Nat} (h : strt base w (.slice (some ⟨b, 0, none⟩) n cap) L) {i : Nat} {x : Nat × Nat} (hx : L[i]? = some x) :
    w.cell? ⟨b, i * 2, none⟩ = some (.int .i64 (x.1 : Int)) ∧ w.cell? ⟨b, i * 2 + 1, none⟩ = some (.int .i64 (x.2 : Int)) := by
  have e : ∀ j, (⟨b, 0, none⟩ : Addr).add j = ⟨b, j, none⟩ := fun j => by unfold Addr.add; split <;> simp_all
  have g := Ls_get L i x hx
  have c := World.ownsRow.cells (g := b) h rfl
  have c1 := c _ _ g.1
  have c2 := c _ _ g.2
  rw [e] at c1 c2
  exact ⟨c1, c2⟩
end
theorem infoSt : (Tryz.prog.info? 56).map (fun i => (i.zero, i.size, i.bytes)) = some (some (.agg #[.int .i64 0, .int .i64 0]), 2, 16) := by kernel_rfl

set_option maxRecDepth 100000 in
theorem Clone_starts {base : Nat} {v : Value} {L : List (Nat × Nat)} {w : World} (h : strt base w v L) (hl : L.length ≤ 1000000) :
    Calls Tryz.prog 38 #[v] w fun e w' => ∃ v', e = .returned v' ∧ strt w.heap.size w' v' L ∧ Below w.heap.size w w' := by
  rcases h.2 with ⟨rfl, h0⟩ | ⟨b, cap, cur, hv, hbb, hcur, hrest⟩
  · have e : L = [] := List.eq_nil_of_length_eq_zero h0
    subst e
    have he := fun u : World => Lib.run_eql_slice_nil (P := Tryz.prog) u 42 56 none 0 0 0 0 Tryz.underlying42
    go_enter Tryz.func38, Tryz.ntmps38
    go_wp2
    go_ret
    exact ⟨_, rfl, strt_nil _ _, Below.refl _ _⟩
  · subst hv
    have he := fun u : World => Lib.run_eql_slice_nil (P := Tryz.prog) u 42 56 (some ⟨b, 0, none⟩) L.length cap 0 0 Tryz.underlying42
    obtain ⟨i0, hi, hz0, hz1, hz2⟩ := info_parts infoSt
    obtain ⟨w1, hw1⟩ : ∃ w1, w1 = w.alloc (.cells #[] 56) := ⟨_, rfl⟩
    have HI : Hid (w1.ownsRow w.heap.size 56 2 (.slice (some ⟨w.heap.size, 0, none⟩) 0 0) 0 []) := Lib.hid ⟨rfl, .inr ⟨w.heap.size, 0, _, rfl, Nat.le_refl _, by rw [hw1]; exact Blk.fresh w _ _, by simp, by unfold maxLen; omega, by simp, by simp⟩⟩
    have HB : Hid (Below w.heap.size w w1) := Lib.hid (by rw [hw1]; exact below_alloc w _)
    have HS : Hid (w.heap.size ≤ w1.heap.size) := Lib.hid HB.out.size
    have HC : Hid (∀ j u, (Ls L)[j]? = some u → w1.cell? ((⟨b, 0, none⟩ : Addr).add j) = some u) := Lib.hid (World.ownsRow.cells (g := b) (strt.below h HB.out) rfl)
    obtain ⟨n, hn⟩ : ∃ n, n = L.length := ⟨_, rfl⟩
    have HL : Hid ((Ls L).length = n * 2) := Lib.hid (by rw [Ls_length, hn])
    have HN := Lib.hid hn
    rw [← hn] at hl he ⊢
    have hnn : 0 + n ≤ maxLen := by unfold maxLen; omega
    have hnb : (0 + n) * 16 ≤ 140737488355328 := by omega
    clear h hcur hrest hbb hn
    go_enter Tryz.func38, Tryz.ntmps38
    go_wp2_with (at_builtin; rw [← hw1]; refine wpList_append_own_at _ rfl _ _ 42 rfl w.heap.size 56 i0 _ 2 16 Tryz.underlying42 hi hz0 hz1 hz2 rfl (by omega) _ 0 [] rfl HI.out ⟨b, 0, none⟩ n cap (Ls L) rfl HL.out HC.out (Ls_one L) hnn hnb HS.out ?_; intro v2 w2 h2 g2 n2 l2; have H2 := Lib.hid h2; have G2 := Lib.hid g2; clear h2 g2 n2 l2)
    obtain ⟨A2, c2, hv2⟩ : ∃ A2 c2, v2 = .slice A2 n c2 := by
      rcases H2.out.2 with ⟨rfl, h0⟩ | ⟨g, cap, _, rfl, _⟩
      · exact ⟨none, 0, by rw [show n = 0 by omega]⟩
      · exact ⟨_, cap, by rw [Nat.zero_add]⟩
    subst hv2
    go_wp2
    go_ret
    refine ⟨_, rfl, ?_, HB.out.grown G2.out HS.out (fun k hk => by have e : some w.heap.size = some k := hk; injection e with e; omega)⟩
    have k := H2.out
    rw [Nat.zero_add, List.nil_append, HN.out] at k
    rw [HN.out]
    exact k

theorem rdy_of_own {w : World} {base : Nat} {v : Value} {l : List UInt8} (h : w.ownsRow base 5 1 v l.length (Bs l)) : rdy w v l ∧ ∀ i, ofR v i → base ≤ i := by
  rcases h.2 with ⟨rfl, h0⟩ | ⟨g, cap, cur, rfl, hb, hh, h1, _, h3, h4⟩
  · exact ⟨.inl ⟨List.eq_nil_of_length_eq_zero h0, none, rfl⟩, fun i ⟨_, _, _, e, _⟩ => by cases e⟩
  · refine ⟨?_, fun i ⟨_, _, _, e, _⟩ => by injection e with e _ _; injection e with e; injection e with e _ _; omega⟩
    by_cases hc : cap = 0
    · subst hc
      exact .inl ⟨List.eq_nil_of_length_eq_zero (by omega), _, by rw [show l.length = 0 by omega]⟩
    · exact .inr ⟨g, 0, cap, cur, rfl, hh, by omega, h1, by omega, by rw [List.drop_zero]; simpa using h4⟩
set_option maxRecDepth 100000 in
theorem Clone_bytes {v : Value} {l : List UInt8} {w : World} (h : rdy w v l) (hl : l.length ≤ 100000000) :
    Calls Tryz.prog 39 #[v] w fun e w' => ∃ v', e = .returned v' ∧ rdy w' v' l ∧ (∀ i, ofR v' i → w.heap.size ≤ i) ∧ Below w.heap.size w w' := by
  obtain ⟨A, cap, hv, hcap, hcell⟩ := h.form
  subst hv
  cases A with
  | none =>
    have h0 : l.length = 0 := by
      rcases Nat.eq_zero_or_pos l.length with h0 | h0
      · exact h0
      · obtain ⟨b, o, e, _⟩ := hcell h0; cases e
    have e : l = [] := List.eq_nil_of_length_eq_zero h0
    subst e
    have he := fun u : World => Lib.run_eql_slice_nil (P := Tryz.prog) u 62 5 none 0 cap 0 0 Tryz.underlying62
    clear h hcell hl hcap h0
    go_enter Tryz.func39, Tryz.ntmps39
    go_wp2
    go_ret
    exact ⟨_, rfl, rdy_nil _, fun i ⟨_, _, _, e, _⟩ => (by cases e), Below.refl _ _⟩
  | some a =>
    have he := fun u : World => Lib.run_eql_slice_nil (P := Tryz.prog) u 62 5 (some a) l.length cap 0 0 Tryz.underlying62
    obtain ⟨i0, hi, hz0, hz1, hz2⟩ := info_parts info8
    obtain ⟨w1, hw1⟩ : ∃ w1, w1 = w.alloc (.cells #[] 5) := ⟨_, rfl⟩
    have HI : Hid (w1.ownsRow w.heap.size 5 1 (.slice (some ⟨w.heap.size, 0, none⟩) 0 0) 0 []) := Lib.hid ⟨rfl, .inr ⟨w.heap.size, 0, _, rfl, Nat.le_refl _, by rw [hw1]; exact Blk.fresh w _ _, by simp, by unfold maxLen; omega, by simp, by simp⟩⟩
    have HB : Hid (Below w.heap.size w w1) := Lib.hid (by rw [hw1]; exact below_alloc w _)
    have HS : Hid (w.heap.size ≤ w1.heap.size) := Lib.hid HB.out.size
    have HC : Hid (∀ j u, (Bs l)[j]? = some u → w1.cell? (a.add j) = some u) := Lib.hid (by
      intro j u hj
      have hj2 : j < l.length := by
        rcases Nat.lt_or_ge j l.length with h | h
        · exact h
        · rw [List.getElem?_eq_none (by rw [Bs_length]; exact h)] at hj; cases hj
      obtain ⟨b, o, e, hb, hc⟩ := hcell (by omega)
      injection e with e
      subst e
      have e3 : ((⟨b, o, none⟩ : Addr).add j) = ⟨b, o + j, none⟩ := by simp [Addr.add]
      rw [e3]
      have hbl := Below.cell HB.out (p := ⟨b, o + j, none⟩) hb
      rw [hbl, hc j hj2, ← Bs_get]
      exact hj)
    obtain ⟨n, hn⟩ : ∃ n, n = l.length := ⟨_, rfl⟩
    have HL : Hid ((Bs l).length = n * 1) := Lib.hid (by rw [Bs_length, hn, Nat.mul_one])
    have HN := Lib.hid hn
    rw [← hn] at hl he ⊢
    have hnn : 0 + n ≤ maxLen := by unfold maxLen; omega
    have hnb : (0 + n) * 1 ≤ 140737488355328 := by omega
    clear h hcell hcap hn
    go_enter Tryz.func39, Tryz.ntmps39
    go_wp2_with (at_builtin; rw [← hw1]; refine wpList_append_own_at _ rfl _ _ 62 rfl w.heap.size 5 i0 _ 1 1 Tryz.underlying62 hi hz0 hz1 hz2 rfl (by omega) _ 0 [] rfl HI.out a n cap (Bs l) rfl HL.out HC.out (Bs_one l) hnn hnb HS.out ?_; intro v2 w2 h2 g2 n2 l2; have H2 := Lib.hid h2; have G2 := Lib.hid g2; clear h2 g2 n2 l2)
    obtain ⟨A2, c2, hv2⟩ : ∃ A2 c2, v2 = .slice A2 n c2 := by
      rcases H2.out.2 with ⟨rfl, h0⟩ | ⟨g, cap, _, rfl, _⟩
      · exact ⟨none, 0, by rw [show n = 0 by omega]⟩
      · exact ⟨_, cap, by rw [Nat.zero_add]⟩
    subst hv2
    go_wp2
    go_ret
    have k := H2.out
    rw [Nat.zero_add, List.nil_append, HN.out] at k
    have k2 := rdy_of_own k
    rw [HN.out]
    exact ⟨_, rfl, k2.1, k2.2, HB.out.grown G2.out HS.out (fun k hk => by have e : some w.heap.size = some k := hk; injection e with e; omega)⟩
end Go.Proofs.YtnkninjdpgpkmaaGreatDoor.Ib
