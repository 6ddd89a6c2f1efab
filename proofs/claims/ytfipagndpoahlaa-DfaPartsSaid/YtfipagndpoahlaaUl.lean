/-
  The closure of Live (layer 18): a state that is marked, and put behind those that were found.
  Conditions: as each theorem says.
-/
import Derived.Test.YtfipagndpoahlaaUk
import Derived.Maps.AppendAt
import Derived.Deep.AppendSrc
namespace Go.Proofs.Ytfipagndpoahlaa.Ul
open Go.RowKit Go.PlainAid Go.Proofs.Ytfipagndpoahlaa.Bw Go.Proofs.Ytfipagndpoahlaa.Na Go.Proofs.Ytfipagndpoahlaa.Ko Go.Proofs.Ytfipagndpoahlaa.Ua Go.Proofs.Ytfipagndpoahlaa.Ub Go.Proofs.Ytfipagndpoahlaa.Uc Go.Proofs.Ytfipagndpoahlaa.Ud Go.Proofs.Ytfipagndpoahlaa.Ue Go.Proofs.Ytfipagndpoahlaa.Uf Go.Proofs.Ytfipagndpoahlaa.Ui Go.Proofs.Ytfipagndpoahlaa.Uj

theorem celN_set (n : Nat) (h : Nat → Value) (k : Nat) (v : Value) : (celN n h).setIfInBounds k v = celN n (fun i => if i = k then v else h i) := by
  apply Array.ext
  · simp [celN]
  · intro i h1 h2
    have hi : i < (celN n h).size := by simpa using h1
    rw [Array.getElem_setIfInBounds hi]
    by_cases e : k = i
    · subst e; simp [celN]
    · rw [if_neg e]; simp [celN, show ¬ i = k by omega]
/-- Cells of truths. -/
def bol (n : Nat) (f : Nat → Bool) : Array Value := celN n (fun i => .bool (f i))
/-- One more is true. -/
def setT (f : Nat → Bool) (p : Nat) : Nat → Bool := fun i => if i = p then true else f i
theorem bol_get {n : Nat} (f : Nat → Bool) {i : Nat} (h : i < n) : (bol n f)[i]? = some (.bool (f i)) := celN_get _ h
theorem bol_set (n : Nat) (f : Nat → Bool) (p : Nat) : (bol n f).setIfInBounds p (.bool true) = bol n (setT f p) := by
  unfold bol
  rw [celN_set]
  refine celN_congr (fun i _ => ?_)
  unfold setT
  by_cases e : i = p
  · rw [if_pos e, if_pos e]
  · rw [if_neg e, if_neg e]
theorem infoI : (Try.prog.info? 3).map (fun i => (i.zero, i.size, i.bytes)) = some (some (.int .i64 0), 1, 8) := by kernel_rfl
theorem cell_one (w : World) (v : Value) (t : TypeId) : ∀ (j : Nat) (u : Value), [v][j]? = some u → (w.alloc (.cells #[v] t)).cell? ((⟨w.heap.size, 0, none⟩ : Addr).add j) = some u := fun j u h => by
  have hj : j < 1 := by have := (List.getElem?_eq_some_iff.1 h).1; simpa using this
  obtain rfl : j = 0 := by omega
  have hadd : (⟨w.heap.size, 0, none⟩ : Addr).add 0 = ⟨w.heap.size, 0, none⟩ := by unfold Addr.add; split <;> simp_all
  rw [hadd, (Blk.fresh w t #[v]).cell 0]
  simpa using h
/-- 'append(v, x)', x in a cell of its own: only the row's block has changed; where the row lies. -/
theorem wpList_app1 {t : TypeId} (ht : Try.prog.underlying t = some (.slice 3))
    {ops : Array Oper} {rest : List Oper} {o : Oper} {a : Act} {Q : Exit → Act → World → Prop} (hgd : o.guard = none) (s x : Operand)
    (ho : o.op = .call { callee := .builtin .append, args := #[s, x], argTypes := #[t, t] }) {w : World} {base : Nat} (hb : base ≤ w.heap.size)
    {v : Value} {l : List Int} (hs : a.eval s = v) (hown : ints w base 3 v l) (c : Int) {m k N : Nat} (hm : m = 1) (hx : a.eval x = .slice (some ⟨N, 0, none⟩) m k) (hN : N = w.heap.size)
    (hlen : l.length ≤ 1000000000)
    (h : ∀ v' w', ints w' base 3 v' (l ++ [c]) → Only (fun i => v.ownBlock = some i) w w' → (∀ q, v'.ownBlock = some q → v.ownBlock = some q ∨ w.heap.size ≤ q) → wpList Try.prog ops Q rest (a.put o.dst v') w') : wpList Try.prog ops Q (o :: rest) a (w.alloc (.cells #[.int .i64 c] 3)) := by
  subst hN
  obtain ⟨i0, hi, hz0, hz1, hz2⟩ := info_parts infoI
  refine wpList_append_own_at _ hgd s x t ho base 3 i0 (.int .i64 0) 1 8 ht hi hz0 hz1 hz2 rfl (by decide) v l.length (Is l) hs (World.ownsRow.alloc hown _) ⟨w.heap.size, 0, none⟩ m k [.int .i64 c] hx (by rw [hm]; rfl) (cell_one _ _ _) (by intro u hu; simp at hu; subst hu; rfl) (by unfold maxLen; omega) (by rw [hm]; omega) (by rw [size_alloc]; omega) (fun v' w' h2 h3 _ h5 => h v' w' ?_ (((Only.refl _ w).alloc _).grown h3 (fun i hi _ => hi)) (fun q hq => ?_))
  · have e1 : Is (l ++ [c]) = Is l ++ [.int .i64 c] := by rw [Is_append]; rfl
    unfold ints
    rw [e1, List.length_append, show [c].length = m by rw [hm]; rfl]
    exact h2
  · rcases h5 with h5 | h5
    · exact .inl (h5 ▸ hq)
    · rw [h5] at hq
      injection hq with hq
      rw [size_alloc] at hq
      exact .inr (by omega)
/-- Live on its way: the marks, and the states that were found. -/
structure mk (u : World) (base g3 g4 L K : Nat) (f : Nat → Bool) (v : Value) (FL : List Int) : Prop where
  b3 : Blk u g3 33 #[.slice (some ⟨L, 0, none⟩) K K]
  bl : Blk u L 4 (bol K f)
  b4 : Blk u g4 24 #[v]
  r : ints u base 3 v FL
  l3 : base ≤ g3
  ll : base ≤ L
  l4 : base ≤ g4
/-- What of a marking call's blocks may change. -/
def mkS (L g4 : Nat) (v : Value) (i : Nat) : Prop := i = L ∨ i = g4 ∨ v.ownBlock = some i
theorem mk_step {u u1 u2 u3 : World} {base g3 g4 L K p : Nat} {f : Nat → Bool} {v v' : Value} {FL : List Int} (h : mk u base g3 g4 L K f v FL)
    (e1 : u1 = u.setCell ⟨L, p, none⟩ (.bool true)) (h2 : ints u2 base 3 v' (FL ++ [(p : Int)])) (o2 : Only (fun i => v.ownBlock = some i) u1 u2) (p2 : ∀ q, v'.ownBlock = some q → v.ownBlock = some q ∨ u1.heap.size ≤ q)
    (e3 : u3 = u2.setCell ⟨g4, 0, none⟩ v') : mk u3 base g3 g4 L K (setT f p) v' (FL ++ [(p : Int)]) ∧ Only (mkS L g4 v) u u3 ∧ (∀ q, v'.ownBlock = some q → v.ownBlock = some q ∨ u.heap.size ≤ q) := by
  have o1 : Only (fun i => i = L) u u1 := by rw [e1]; exact (Only.refl (fun i => i = L) u).store (p := ⟨L, p, none⟩) (.inl rfl) _
  have o3 : Only (fun i => i = g4) u2 u3 := by rw [e3]; exact (Only.refl (fun i => i = g4) u2).store (p := ⟨g4, 0, none⟩) (.inl rfl) _
  have x3L : g3 ≠ L := h.b3.apart h.bl (by decide)
  have x34 : g3 ≠ g4 := h.b3.apart h.b4 (by decide)
  have xL4 : L ≠ g4 := h.bl.apart h.b4 (by decide)
  have rL : ∀ q, v.ownBlock = some q → q ≠ L := own_apart h.r h.bl (by decide)
  have r3 : ∀ q, v.ownBlock = some q → q ≠ g3 := own_apart h.r h.b3 (by decide)
  have r4 : ∀ q, v.ownBlock = some q → q ≠ g4 := own_apart h.r h.b4 (by decide)
  have b3a := (h.b3.only o1 (fun e => x3L e)).only o2 (fun e => r3 _ e rfl)
  have b4a := (h.b4.only o1 (fun e => xL4 e.symm)).only o2 (fun e => r4 _ e rfl)
  have bLa : Blk u1 L 4 (bol K (setT f p)) := by rw [e1, ← bol_set]; exact h.bl.store p (.bool true)
  have bLb := bLa.only o2 (fun e => rL _ e rfl)
  have q4 : ∀ q, v'.ownBlock = some q → q ≠ g4 := own_apart h2 b4a (by decide)
  refine ⟨⟨b3a.only o3 (fun e => x34 e), bLb.only o3 (fun e => xL4 e), ?_, h2.only o3 (fun q hq e => q4 q hq e), h.l3, h.ll, h.l4⟩, ?_, ?_⟩
  · rw [e3]; exact b4a.store 0 v'
  · exact ((o1.mono (fun i hi => .inl hi)).trans (o2.mono (fun i hi => .inr (.inr hi)))).trans (o3.mono (fun i hi => .inr (.inl hi)))
  · intro q hq
    rcases p2 q hq with k | k
    · exact .inl k
    · exact .inr (Nat.le_trans o1.size k)
set_option maxHeartbeats 1000000 in
set_option maxRecDepth 100000 in
theorem mark_yes {u : World} {base g3 g4 L K p : Nat} {f : Nat → Bool} {v : Value} {FL : List Int} (hp : p < K) (hf : f p = true) (H : Hid (mk u base g3 g4 L K f v FL)) :
    Calls Try.prog 28 #[.int .i64 (p : Int), .pointer (some ⟨g3, 0, none⟩), .pointer (some ⟨g4, 0, none⟩)] u fun e u' => e = .returned (.tuple #[]) ∧ u = u' := by
  have c3 := H.out.b3.cell 0
  have cL : u.cell? ⟨L, p, none⟩ = some (.bool true) := (H.out.bl.cell p).trans (by rw [bol_get _ hp, hf])
  have hp' : (p : Int) < (K : Int) := by omega
  clear hf
  go_enter Try.func28, Try.ntmps28
  go_wp2
  go_end0
  exact ⟨rfl, rfl⟩
set_option maxHeartbeats 2000000 in
set_option maxRecDepth 100000 in
theorem mark_no {u : World} {base g3 g4 L K p : Nat} {f : Nat → Bool} {v : Value} {FL : List Int} (hp : p < K) (hf : f p = false) (hl : FL.length ≤ 1000000) (H : Hid (mk u base g3 g4 L K f v FL)) :
    Calls Try.prog 28 #[.int .i64 (p : Int), .pointer (some ⟨g3, 0, none⟩), .pointer (some ⟨g4, 0, none⟩)] u fun e u' => e = .returned (.tuple #[]) ∧ ∃ v', mk u' base g3 g4 L K (setT f p) v' (FL ++ [(p : Int)]) ∧ Only (mkS L g4 v) u u' ∧ (∀ q, v'.ownBlock = some q → v.ownBlock = some q ∨ u.heap.size ≤ q) := by
  obtain ⟨A, c, hv, _⟩ := H.out.r.le
  obtain ⟨n, hn⟩ : ∃ n, n = FL.length := ⟨_, rfl⟩
  rw [← hn] at hv
  subst hv
  have c3 := H.out.b3.cell 0
  have cL : u.cell? ⟨L, p, none⟩ = some (.bool false) := (H.out.bl.cell p).trans (by rw [bol_get _ hp, hf])
  have fL := H.out.bl.frozen p
  have hp' : (p : Int) < (K : Int) := by omega
  obtain ⟨u1, hu1⟩ : ∃ u1, u1 = u.setCell ⟨L, p, none⟩ (.bool true) := ⟨_, rfl⟩
  have O1 : Hid (Only (fun i => i = L) u u1) := Lib.hid (by rw [hu1]; exact (Only.refl (fun i => i = L) u).store (p := ⟨L, p, none⟩) (.inl rfl) _)
  have K4 : Hid (Blk u1 g4 24 #[.slice A n c]) := Lib.hid (H.out.b4.only O1.out (fun e => (H.out.bl.apart H.out.b4 (by decide)) e.symm))
  have R1 : Hid (ints u1 base 3 (.slice A n c) FL) := Lib.hid (H.out.r.only O1.out (fun q hq e => own_apart H.out.r H.out.bl (by decide) q hq e))
  have HU := Lib.hid hu1
  have HBS : Hid (base ≤ u1.heap.size) := Lib.hid (Nat.le_trans H.out.l4 (Nat.le_trans (Nat.le_of_lt H.out.b4.lt) O1.out.size))
  have HL := Lib.hid hl
  clear hf hn hl
  go_enter Try.func28, Try.ntmps28
  go_upto_region 2 with fail
  rw [← hu1]
  clear hu1 c3 cL fL
  have c4 : u1.cell? ⟨g4, 0, none⟩ = some (.slice A n c) := K4.out.cell 0
  go_wp2_with (at_builtin; refine wpList_app1 Try.underlying24 rfl _ _ rfl HBS.out (by rfl) R1.out (p : Int) rfl (by rfl) rfl (by have := HL.out; omega) ?_)
  intro v' w' h2 o2 p2
  obtain ⟨A', c', hv', _⟩ := h2.le
  obtain ⟨n', hn'⟩ : ∃ n', n' = (FL ++ [(p : Int)]).length := ⟨_, rfl⟩
  rw [← hn'] at hv'
  subst hv'
  have H2 := Lib.hid h2
  have O2 := Lib.hid o2
  have P2 := Lib.hid p2
  have K5 := K4.out.only o2 (fun e => own_apart R1.out K4.out (by decide) _ e rfl)
  have c4 := K5.cell 0
  have f4 := K5.frozen 0
  clear h2 o2 p2 hn' K5
  go_wp2
  go_end0
  exact ⟨rfl, _, mk_step H.out HU.out H2.out O2.out P2.out rfl⟩
end Go.Proofs.Ytfipagndpoahlaa.Ul
