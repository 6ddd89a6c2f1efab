/-
  The program's above, one and join.
  The program's class.
  The program's class.
  The program's reader of expressions: what its parts answer, in memory.
  The program's alt.
  The program's cat.
  The program's rep.
  The program's atom: all but what is in brackets.
  The program's inside: a part in brackets.
  Conditions: as each theorem says.
-/
import Derived.Test.YtabcehifdomolaaDoorQan
import Derived.Test.YtabcehifdomolaaDoorQal
import Derived.Test.YtabcehifdomolaaDoorQap
namespace Go.Proofs.YtabcehifdomolaaDoor.Eu
open Go.RowKit Go.Proofs.YtabcehifdomolaaDoor.Vm Go.Proofs.YtabcehifdomolaaDoor.Vo Go.Proofs.YtabcehifdomolaaDoor.Bw Go.Proofs.YtabcehifdomolaaDoor.Na Go.Proofs.YtabcehifdomolaaDoor.Ko Go.Proofs.YtabcehifdomolaaDoor.Tm Go.Proofs.YtabcehifdomolaaDoor.Ts Go.Proofs.YtabcehifdomolaaDoor.Ta Go.Proofs.YtabcehifdomolaaDoor.Tb Go.Proofs.YtabcehifdomolaaDoor.Tf Go.Proofs.YtabcehifdomolaaDoor.Rm Go.Proofs.YtabcehifdomolaaDoor.Rv Go.Proofs.YtabcehifdomolaaDoor.Ra Go.Proofs.YtabcehifdomolaaDoor.Re Go.Proofs.YtabcehifdomolaaDoor.Rk Go.Proofs.YtabcehifdomolaaDoor.Rn Go.Proofs.YtabcehifdomolaaDoor.Ed Go.Proofs.YtabcehifdomolaaDoor.Ee Go.Proofs.YtabcehifdomolaaDoor.En Go.Proofs.YtabcehifdomolaaDoor.Es

/-- A slice of nodes that lies in a block of nodes. -/
def slT (w : World) (v : Value) (l : List Nd) : Prop := ∃ A cap, v = .slice A l.length cap ∧ l.length ≤ cap ∧ nds w A l ∧ ∀ ad, A = some ad → l ≠ [] → ∃ cs, Blk w ad.block 38 cs
theorem slT.sl {w : World} {v : Value} {l : List Nd} (h : slT w v l) : sl w v l := by
  obtain ⟨A, cap, e, hc, hn, _⟩ := h
  exact ⟨A, cap, e, hc, hn⟩
theorem slT.below {w w' : World} {v : Value} {l : List Nd} (h : slT w v l) (k : Below w.heap.size w w') : slT w' v l := by
  obtain ⟨A, cap, e, hc, hn, ht⟩ := h
  exact ⟨A, cap, e, hc, hn.below k, fun ad ha hl => by obtain ⟨cs, hb⟩ := ht ad ha hl; exact ⟨cs, hb.below k⟩⟩
theorem slT_nil (w : World) : slT w (.slice none 0 0) [] := ⟨none, 0, rfl, Nat.le_refl _, nds_nil _ _, fun _ e => by cases e⟩
/-- Writes to blocks of another type leave it. -/
theorem slT.only {w w' : World} {v : Value} {l : List Nd} (h : slT w v l) {S : Nat → Prop} (k : Only S w w') (hS : ∀ i, S i → i < w.heap.size → ∃ t cs, Blk w i t cs ∧ t ≠ 38) : slT w' v l := by
  obtain ⟨A, cap, e, hc, hn, ht⟩ := h
  have hb : ∀ ad, A = some ad → l ≠ [] → ¬ S ad.block := fun ad ha hl hs => by
    obtain ⟨cs, hb⟩ := ht ad ha hl
    obtain ⟨t, cs', hb', hne⟩ := hS _ hs hb.lt
    exact Blk.apart hb' hb hne rfl
  refine ⟨A, cap, e, hc, fun i x hi => ?_, fun ad ha hl => by obtain ⟨cs, h1⟩ := ht ad ha hl; exact ⟨cs, h1.only k (hb ad ha hl)⟩⟩
  obtain ⟨b, off, ha, hlt, hp⟩ := hn i x hi
  have hl : l ≠ [] := by rintro rfl; simp at hi
  have hcell : ∀ j, w'.cell? ⟨b, j, none⟩ = w.cell? ⟨b, j, none⟩ := fun j => by
    have h1 := k.block b hlt (hb _ ha hl)
    simp only [World.cell?, h1]
  exact ⟨b, off, ha, Nat.lt_of_lt_of_le hlt k.size, hp.s, hp.ik, hp.ikn, hp.il, hp.ih, (hcell _).trans hp.c0, (hcell _).trans hp.c1, fun i y hy => (hcell _).trans (hp.cs i y hy), (hcell _).trans hp.c6, (hcell _).trans hp.c7⟩
theorem nw_readT {w : World} {base : Nat} {v : Value} {l : List Nd} (h : nw w base v l) (ho : ∀ x ∈ l, ndOk x) : slT w v l := by
  obtain ⟨A, cap, e, hc, hn⟩ := h.read ho
  refine ⟨A, cap, e, hc, hn, fun ad ha _ => ?_⟩
  rcases h.2 with ⟨e0, _⟩ | ⟨g, _, cur, e1, _, hh, _⟩
  · rw [e0] at e; injection e with e2 _ _; rw [← e2] at ha; cases ha
  · rw [e1] at e
    injection e with e2 _ _
    rw [← e2] at ha
    injection ha with ha
    subst ha
    exact ⟨cur, hh⟩
/-- A row of lists of nodes. -/
def rows (w : World) (v : Value) (ls : List (List Nd)) : Prop := ∃ base L, vs w base 22 v L ∧ L.length = ls.length ∧ ∀ (j : Nat) l, ls[j]? = some l → ∃ x, L[j]? = some x ∧ slT w x l
theorem rows_nil (w : World) : rows w (.slice none 0 0) [] := ⟨0, [], vs_nil _ _ _, rfl, fun j l h => by simp at h⟩
theorem rows.below {w w' : World} {v : Value} {ls : List (List Nd)} (h : rows w v ls) (k : Below w.heap.size w w') : rows w' v ls := by
  obtain ⟨base, L, h1, h2, h3⟩ := h
  exact ⟨base, L, h1.below k, h2, fun j l hj => by obtain ⟨x, hx, hs⟩ := h3 j l hj; exact ⟨x, hx, hs.below k⟩⟩
theorem rows.form {w : World} {v : Value} {ls : List (List Nd)} (h : rows w v ls) : ∃ A cap, v = .slice A ls.length cap := by
  obtain ⟨base, L, h1, h2, _⟩ := h
  obtain ⟨A, cap, rfl, _⟩ := h1.le
  exact ⟨A, cap, by rw [h2]⟩
theorem take_flat {ls : List (List Nd)} {j : Nat} {l : List Nd} (h : ls[j]? = some l) : (ls.take (j + 1)).flatten = (ls.take j).flatten ++ l := by
  rw [List.take_add_one, h]
  simp
theorem flat_le {ls : List (List Nd)} (j : Nat) : (ls.take j).flatten.length ≤ ls.flatten.length := by
  conv => rhs; rw [← List.take_append_drop j ls]
  rw [List.flatten_append, List.length_append]
  omega
/-- A node with so many children. -/
def wN (x : Nd) (n : Nat) : Nd := ⟨x.k, n, x.s, x.lo, x.hi⟩
set_option maxHeartbeats 2000000 in
set_option maxRecDepth 100000 in
theorem above_any {x : Nd} (hx : ndOk x) {v : Value} {ls : List (List Nd)} (hN : ls.flatten.length ≤ 999000) (hls : ls.length ≤ 999000) {w : World} (H : Hid (rows w v ls)) :
    Calls Tryd.prog 52 #[.agg (cN x).toArray, v] w fun e w' => ∃ v', e = .returned v' ∧ slT w' v' (wN x ls.length :: ls.flatten) ∧ Below w.heap.size w w' := by
  obtain ⟨A, cap, rfl⟩ := H.out.form
  obtain ⟨n, hn⟩ : ∃ n, n = ls.length := ⟨_, rfl⟩
  have HN := Lib.hid hn
  rw [← hn] at hls
  rw [← hn]
  have hH := H.out
  rw [← hn] at hH
  obtain ⟨base, L, hv, hL, hr⟩ := hH
  have HV := Lib.hid hv
  have HR := Lib.hid hr
  have HL := Lib.hid hL
  clear hn H hv hr hL
  obtain ⟨x0, x1, x2, x3, hs, hc⟩ := cN_four hx.s
  rw [hc]
  have HX : Hid (ndOk (wN x n)) := Lib.hid ⟨hx.s, hx.ik, by unfold wN in64; dsimp only; omega, hx.il, hx.ih⟩
  have HCN : Hid (cN (wN x n) = [.int .i64 x.k, .int .i64 (n : Int), .int .u64 (x0 : Int), .int .u64 (x1 : Int), .int .u64 (x2 : Int), .int .u64 (x3 : Int), .int .i64 x.lo, .int .i64 x.hi]) := Lib.hid (by unfold cN wN; dsimp only; rw [hs]; rfl)
  obtain ⟨xk, hxk⟩ : ∃ z, z = x.k := ⟨_, rfl⟩
  obtain ⟨xl, hxl⟩ : ∃ z, z = x.lo := ⟨_, rfl⟩
  obtain ⟨xh, hxh⟩ : ∃ z, z = x.hi := ⟨_, rfl⟩
  obtain ⟨xn, hxn⟩ : ∃ z, z = x.n := ⟨_, rfl⟩
  rw [← hxk, ← hxl, ← hxh] at HCN
  rw [← hxk, ← hxl, ← hxh, ← hxn]
  obtain ⟨X, hX⟩ : ∃ X, X = wN x n := ⟨_, rfl⟩
  rw [← hX] at HCN HX ⊢
  clear hs hc hx hxk hxl hxh hxn hX
  go_enter Tryd.func52, Tryd.ntmps52
  go_wp2
  obtain ⟨i0, hi, hz0, hz1, hz2⟩ := info_parts infoNd
  obtain ⟨W, hW⟩ : ∃ W, W = (w.alloc (.cells #[.int .i64 xk, .int .i64 (n : Int), .int .u64 (x0 : Int), .int .u64 (x1 : Int), .int .u64 (x2 : Int), .int .u64 (x3 : Int), .int .i64 xl, .int .i64 xh] 38)).alloc (.cells #[.int .i64 xk, .int .i64 (n : Int), .int .u64 (x0 : Int), .int .u64 (x1 : Int), .int .u64 (x2 : Int), .int .u64 (x3 : Int), .int .i64 xl, .int .i64 xh] 38) := ⟨_, rfl⟩
  rw [← hW]
  have HW1 : Hid (Below w.heap.size w W) := Lib.hid (by rw [hW]; exact (below_alloc w _).alloc (by rw [size_alloc]; omega) _)
  have HW2 : Hid (nw W w.heap.size (.slice (some ⟨w.heap.size + 1, 0, none⟩) 1 1) [X]) := Lib.hid (by
    have e : Nc [X] = [.int .i64 xk, .int .i64 (n : Int), .int .u64 (x0 : Int), .int .u64 (x1 : Int), .int .u64 (x2 : Int), .int .u64 (x3 : Int), .int .i64 xl, .int .i64 xh] := by show cN X ++ [] = _; rw [HCN.out]; rfl
    unfold nw
    rw [e]
    refine ⟨rfl, .inr ⟨w.heap.size + 1, 1, _, rfl, by omega, by rw [hW, ← size_alloc w (.cells #[.int .i64 xk, .int .i64 (n : Int), .int .u64 (x0 : Int), .int .u64 (x1 : Int), .int .u64 (x2 : Int), .int .u64 (x3 : Int), .int .i64 xl, .int .i64 xh] 38)]; exact heap_alloc_new _ _, Nat.le_refl _, by unfold maxLen; omega, rfl, rfl⟩⟩)
  clear hW HCN
  go_loopw [5, 7, 15] (fun s5 _ s15 wr => ∃ (j : Nat) (v5 : Value), s5 = v5 ∧ s15 = .int .i64 (j : Int) ∧ j ≤ n ∧ Hid (nw wr w.heap.size v5 (X :: (ls.take j).flatten)) ∧ Hid (∀ y ∈ (ls.take j).flatten, ndOk y) ∧ Hid (Below w.heap.size w wr)) (fun _ _ s15 _ => n - (intOf s15).toNat)
  case atStart => exact ⟨0, _, rfl, rfl, Nat.zero_le _, by simpa using HW2, Lib.hid (by simp), HW1⟩
  case round =>
    obtain ⟨j, v5, rfl, rfl, hj, HNW, HOK, HB⟩ := hrel
    by_cases hjn : j < n
    · have hj1 : (j : Int) < (n : Int) := by omega
      have hj0 : (0 : Int) ≤ (j : Int) := by omega
      obtain ⟨l, hl⟩ : ∃ l, ls[j]? = some l := ⟨_, List.getElem?_eq_getElem (by rw [← HN.out]; exact hjn)⟩
      obtain ⟨xv, hxv, A2, c2, rfl, hc2, hnd, _⟩ := HR.out j l hl
      obtain ⟨g, hg, hgl, hcell⟩ := (HV.out.below HB.out).cell hxv
      subst hg
      have HJN := Lib.hid hjn
      have HND := Lib.hid hnd
      have HNX : Hid (X :: (ls.take (j + 1)).flatten = (X :: (ls.take j).flatten) ++ l) := Lib.hid (by rw [take_flat hl]; rfl)
      have HOK' : Hid (∀ y ∈ (ls.take (j + 1)).flatten, ndOk y) := Lib.hid (by
        rw [take_flat hl]
        intro y hy
        rcases List.mem_append.1 hy with h | h
        · exact HOK.out y h
        · exact nds_ok HND.out y h)
      have HLE : Hid ((X :: (ls.take j).flatten).length + l.length ≤ 1000000) := Lib.hid (by
        have h1 := flat_le (ls := ls) (j + 1)
        rw [take_flat hl, List.length_append] at h1
        rw [List.length_cons]; omega)
      obtain ⟨A5, c5, hv5, hc5⟩ := HNW.out.le
      subst hv5
      have HS := Lib.hid HB.out.size
      obtain ⟨xs, hxs⟩ : ∃ xs, xs = X :: (ls.take j).flatten := ⟨_, rfl⟩
      rw [← hxs] at HNW HNX HLE hc5
      rw [← hxs]
      obtain ⟨m, hm⟩ : ∃ m, m = xs.length := ⟨_, rfl⟩
      have HM := Lib.hid hm
      have HOW : Hid (wr.ownsRow w.heap.size 38 8 (.slice A5 m c5) m (Nc xs)) := Lib.hid (by have := HNW.out; unfold nw at this; rw [← hm] at this; exact this)
      rw [← hm] at HLE hc5 ⊢
      obtain ⟨q, hq⟩ : ∃ q, q = l.length := ⟨_, rfl⟩
      have HQ := Lib.hid hq
      rw [← hq] at hcell HLE
      clear hl hxv hnd hjn hxs hm hgl hc2 hq HR
      cases A2 with
      | none =>
        have hl0 : l = [] := by
          cases l with
          | nil => rfl
          | cons y l => obtain ⟨_, _, e0, _⟩ := HND.out 0 y rfl; cases e0
        have hq0 : q = 0 := by have := HQ.out; rw [hl0] at this; exact this
        subst hq0
        subst hl0
        have HNX2 : Hid (X :: (ls.take (j + 1)).flatten = xs) := Lib.hid (by have := HNX.out; simpa using this)
        go_wp2_with (at_builtin; refine wpList_append_none _ rfl _ _ 22 rfl 38 i0 Tryd.underlying22 hi A5 m c5 c2 hc5 rfl rfl ?_)
        go_roundw
        case rel => exact ⟨j + 1, _, rfl, by go_num, by have := HJN.out; omega, Lib.hid (by rw [HNX2.out, HM.out]; exact HNW.out), HOK', HB⟩
        case measure => have := HJN.out; simp [intOf]; omega
      | some ad =>
        obtain ⟨b, off, sp⟩ := ad
        go_wp2_with (at_builtin; refine wpList_append_own_at _ rfl _ _ 22 rfl w.heap.size 38 i0 _ 8 64 Tryd.underlying22 hi hz0 hz1 hz2 rfl (by decide) _ m (Nc xs) rfl HOW.out ⟨b, off, sp⟩ q c2 (Nc l) rfl ?a1 ?a2 (Nc_one l) ?a3 ?a4 ?a5 ?_)
        case a1 => rw [Nc_len (nds_ok HND.out), ← HQ.out]
        case a2 =>
          intro k u hu
          cases hl0 : l with
          | nil => rw [hl0] at hu; simp [Nc] at hu
          | cons y l' =>
            obtain ⟨b', off', e0, _⟩ := HND.out 0 y (by rw [hl0]; rfl)
            injection e0 with e0
            injection e0 with e1 e2 e3
            subst e1; subst e2; subst e3
            exact nds_cell (HND.out.below HB.out) k u hu
        case a3 => have := HLE.out; unfold maxLen; omega
        case a4 => have := HLE.out; omega
        case a5 => exact HS.out
        intro v3 w3 h3 g3 _ _
        have HNW3 : Hid (nw w3 w.heap.size v3 (X :: (ls.take (j + 1)).flatten)) := Lib.hid (by
          rw [HNX.out]
          unfold nw
          rw [Nc_append, List.length_append, ← HM.out, ← HQ.out]
          exact h3)
        have HB3 : Hid (Below w.heap.size w w3) := Lib.hid (HB.out.grown g3 HS.out (fun k hk => (World.ownsRow.lt HOW.out k hk).1))
        clear h3 g3
        go_wp2
        go_roundw
        case rel => exact ⟨j + 1, v3, rfl, by go_num, by have := HJN.out; omega, HNW3, HOK', HB3⟩
        case measure => have := HJN.out; simp [intOf]; omega
    · obtain rfl : j = n := by omega
      have hj1 : ¬ (j : Int) < (j : Int) := by omega
      go_wp2
      go_ret
      refine ⟨_, rfl, ?_, HB.out⟩
      have e : ls.take j = ls := List.take_of_length_le (by rw [← HN.out]; exact Nat.le_refl _)
      have h1 := HNW.out
      have h2 := HOK.out
      rw [e] at h1 h2
      refine nw_readT h1 (fun y hy => ?_)
      rcases List.mem_cons.1 hy with rfl | h
      · exact HX.out
      · exact h2 y h
theorem in64_0 : in64 0 := by unfold in64; omega
theorem okS {a : List Nat} (h : isSet a) {k : Int} (hk : in64 k) : ndOk ⟨k, 0, a, 0, 0⟩ := ⟨h, hk, in64_0, in64_0, in64_0⟩
set_option maxRecDepth 100000 in
theorem one_any {a : List Nat} (ha : isSet a) (w : World) :
    Calls Tryd.prog 76 #[.agg (sv a)] w fun e w' => ∃ v', e = .returned v' ∧ slT w' v' [⟨1, 0, a, 0, 0⟩] ∧ Below w.heap.size w w' := by
  have HA : Hid (∀ w, Calls Tryd.prog 52 #[.agg (cN ⟨1, 0, a, 0, 0⟩).toArray, .slice none 0 0] w fun e w' => ∃ v', e = .returned v' ∧ slT w' v' (wN ⟨1, 0, a, 0, 0⟩ ([] : List (List Nd)).length :: ([] : List (List Nd)).flatten) ∧ Below w.heap.size w w') := Lib.hid (fun w => above_any (okS ha (by unfold in64; omega)) (by simp) (by simp) (Lib.hid (rows_nil w)))
  obtain ⟨x0, x1, x2, x3, rfl⟩ := four_of ha
  have HA2 : Hid (∀ w, Calls Tryd.prog 52 #[.agg #[.int .i64 1, .int .i64 0, .int .u64 (x0 : Int), .int .u64 (x1 : Int), .int .u64 (x2 : Int), .int .u64 (x3 : Int), .int .i64 0, .int .i64 0], .slice none 0 0] w fun e w' => ∃ v', e = .returned v' ∧ slT w' v' [⟨1, 0, [x0, x1, x2, x3], 0, 0⟩] ∧ Below w.heap.size w w') := Lib.hid HA.out
  clear HA
  rw [sv_four]
  go_enter Tryd.func76, Tryd.ntmps76
  go_wp2_with (go_at_call 52; refine (HA2.out _).mono ?_; rintro e w1 ⟨v1, rfl, s1, k1⟩; have HS := Lib.hid s1; have HK := Lib.hid k1; clear s1 k1)
  go_ret
  exact ⟨_, rfl, HS.out, grows (below_alloc w _) HK.out⟩
/-- What join makes. -/
def joinN (k : Int) : List (List Nd) → List Nd
  | [] => [⟨2, 0, zero, 0, 0⟩]
  | [l] => l
  | ls => ⟨k, ls.length, zero, 0, 0⟩ :: ls.flatten
set_option maxRecDepth 100000 in
theorem join_any {k : Int} (hk : in64 k) {v : Value} {ls : List (List Nd)} (hN : ls.flatten.length ≤ 999000) (hls : ls.length ≤ 999000) {w : World} (H : Hid (rows w v ls)) :
    Calls Tryd.prog 35 #[.int .i64 k, v] w fun e w' => ∃ v', e = .returned v' ∧ slT w' v' (joinN k ls) ∧ Below w.heap.size w w' := by
  match ls, hN, hls, H with
  | [], _, _, H =>
    have HA : Hid (∀ w, Calls Tryd.prog 52 #[.agg #[.int .i64 2, .int .i64 0, .int .u64 0, .int .u64 0, .int .u64 0, .int .u64 0, .int .i64 0, .int .i64 0], .slice none 0 0] w fun e w' => ∃ v', e = .returned v' ∧ slT w' v' [⟨2, 0, zero, 0, 0⟩] ∧ Below w.heap.size w w') := Lib.hid (fun w => above_any (x := ⟨2, 0, zero, 0, 0⟩) (ls := []) (okS zero_set (by unfold in64; omega)) (by simp) (by simp) (Lib.hid (rows_nil w)))
    obtain ⟨A, cap, hv⟩ := H.out.form
    subst hv
    clear H
    dsimp only [List.length_nil]
    go_enter Tryd.func35, Tryd.ntmps35
    go_wp2_with (go_at_call 52; refine (HA.out _).mono ?_; rintro e w1 ⟨v1, rfl, s1, k1⟩; have HS := Lib.hid s1; have HK := Lib.hid k1; clear s1 k1)
    go_ret
    exact ⟨_, rfl, HS.out, HK.out⟩
  | [l], _, _, H =>
    obtain ⟨base, L, hv, hL, hr⟩ := H.out
    obtain ⟨x, hx, A1, c1, hxv, hc1, hnd⟩ := hr 0 l rfl
    subst hxv
    obtain ⟨A, cap, hav⟩ := H.out.form
    subst hav
    obtain ⟨g, hg, _, hcell⟩ := hv.cell hx
    subst hg
    have HS : Hid (slT w (.slice A1 l.length c1) l) := Lib.hid ⟨A1, c1, rfl, hc1, hnd⟩
    clear hv hL hr hx hnd H hc1
    generalize l.length = q at *
    dsimp only [List.length_cons, List.length_nil, Nat.zero_add]
    go_enter Tryd.func35, Tryd.ntmps35
    go_wp2_with fail
    go_ret
    exact ⟨_, rfl, HS.out, Below.refl _ _⟩
  | l1 :: l2 :: ls, hN, hls, H =>
    have HA : Hid (Calls Tryd.prog 52 #[.agg #[.int .i64 k, .int .i64 0, .int .u64 0, .int .u64 0, .int .u64 0, .int .u64 0, .int .i64 0, .int .i64 0], v] w fun e w' => ∃ v', e = .returned v' ∧ slT w' v' (joinN k (l1 :: l2 :: ls)) ∧ Below w.heap.size w w') := Lib.hid (above_any (x := ⟨k, 0, zero, 0, 0⟩) (okS zero_set hk) hN hls H)
    obtain ⟨A, cap, hv⟩ := H.out.form
    subst hv
    clear H hN
    obtain ⟨n, hn⟩ : ∃ n, n = (l1 :: l2 :: ls).length := ⟨_, rfl⟩
    rw [← hn] at HA ⊢
    have h0 : ((n : Int) == 0) = false := by rw [List.length_cons] at hn; simp; omega
    have h1 : ((n : Int) == 1) = false := by rw [List.length_cons, List.length_cons] at hn; simp; omega
    generalize joinN k (l1 :: l2 :: ls) = R at *
    clear hn hls
    go_enter Tryd.func35, Tryd.ntmps35
    go_wp2_with (go_at_call 52; refine HA.out.mono ?_; rintro e w1 ⟨v1, rfl, s1, k1⟩; have HS := Lib.hid s1; have HK := Lib.hid k1; clear s1 k1)
    go_ret
    exact ⟨_, rfl, HS.out, HK.out⟩
end Go.Proofs.YtabcehifdomolaaDoor.Eu
namespace Go.Proofs.YtabcehifdomolaaDoor.Ecl
open Go.RowKit Go.PlainAid Go.Proofs.YtabcehifdomolaaDoor.Vm Go.Proofs.YtabcehifdomolaaDoor.Vo Go.Proofs.YtabcehifdomolaaDoor.Bw Go.Proofs.YtabcehifdomolaaDoor.Na Go.Proofs.YtabcehifdomolaaDoor.Tm Go.Proofs.YtabcehifdomolaaDoor.Ts Go.Proofs.YtabcehifdomolaaDoor.Ta Go.Proofs.YtabcehifdomolaaDoor.Tb Go.Proofs.YtabcehifdomolaaDoor.Td Go.Proofs.YtabcehifdomolaaDoor.Tf Go.Proofs.YtabcehifdomolaaDoor.Rm Go.Proofs.YtabcehifdomolaaDoor.Rs Go.Proofs.YtabcehifdomolaaDoor.Ru Go.Proofs.YtabcehifdomolaaDoor.Ra Go.Proofs.YtabcehifdomolaaDoor.Ed Go.Proofs.YtabcehifdomolaaDoor.Ep Go.Proofs.YtabcehifdomolaaDoor.Em Go.Proofs.YtabcehifdomolaaDoor.Ek Go.Proofs.YtabcehifdomolaaDoor.Er Go.Proofs.YtabcehifdomolaaDoor.Eo Go.Proofs.YtabcehifdomolaaDoor.Es Go.Proofs.YtabcehifdomolaaDoor.Et Go.Proofs.YtabcehifdomolaaDoor.Ex Go.Proofs.YtabcehifdomolaaDoor.Ech Go.Proofs.YtabcehifdomolaaDoor.Ez Go.Proofs.YtabcehifdomolaaDoor.Eit Go.Proofs.YtabcehifdomolaaDoor.Eu

/-- Where a class stands: C is what comes of it in all. -/
def midC (s : ByteArray) (K : Nat) (neg : Bool) (acc : List Nat) (C : Out (List Nat)) (a : Nat) (c q : Int) : Prop :=
  (c = 0 ∧ q = 0 ∧ a ≤ s.size ∧ ∃ f, (rst s a).length + 1 ≤ f ∧ C = clsP K neg f acc (rst s a)) ∨ (a = s.size ∧ ∃ e k : Nat, e ≠ 0 ∧ c = (e : Int) ∧ q = ((s.size - k : Nat) : Int) ∧ C = .err e k)
/-- One item more. -/
theorem midC_next {s : ByteArray} {g K : Nat} {neg : Bool} {acc : List Nat} {C : Out (List Nat)} {a f ch : Nat} {r z : List Nat} {w' : World} (hr : rst s a = ch :: r) (h93 : ch ≠ 93) (hf : (rst s a).length + 1 ≤ f) (hC : C = clsP K neg f acc (rst s a)) (hi : itmS s g ch r z w') :
    ∃ a' c' q', par w' g s a' c' q' ∧ a < a' ∧ midC s K neg (orL acc z) C a' c' q' := by
  rw [hr] at hf hC
  obtain ⟨f, rfl⟩ : ∃ f', f = f' + 1 := ⟨f - 1, by rw [List.length_cons] at hf; omega⟩
  have hal := (rst_next hr).1
  have ha : ∀ {a'}, a' ≤ s.size → (rst s a').length < (ch :: r).length → a < a' := fun {a'} h1 h => by
    rw [← hr, rst_len, rst_len] at h
    omega
  have hd : ∀ {e k : Nat}, C = .err e k → dead w' g s e k → ∃ a' c' q', par w' g s a' c' q' ∧ a < a' ∧ midC s K neg (orL acc z) C a' c' q' := fun {e k} h1 h2 => ⟨s.size, _, _, h2.2, hal, .inr ⟨rfl, e, k, h2.1, rfl, rfl, h1⟩⟩
  have hl : ∀ {r' : List Nat}, C = clsP K neg f (orL acc z) r' → r'.length < (ch :: r).length → live w' g s r' → ∃ a' c' q', par w' g s a' c' q' ∧ a < a' ∧ midC s K neg (orL acc z) C a' c' q' := fun {r'} h1 h2 h3 => by
    obtain ⟨a', h4, h5, h6⟩ := h3
    refine ⟨a', 0, 0, h5, ha h4 (by rw [h6]; exact h2), .inl ⟨rfl, rfl, h4, f, by rw [h6]; rw [List.length_cons] at hf h2; omega, by rw [h6]; exact h1⟩⟩
  have hch := chr_all (ch :: r)
  rw [clsP, if_neg h93] at hC
  obtain ⟨_, hi⟩ := hi
  cases hq : chrP (ch :: r) with
  | err e k =>
    rw [hq] at hC hi
    exact hd hC hi
  | ok x r1 =>
    obtain ⟨xs, xo⟩ := x
    rw [hq] at hC hi hch
    have hlen : r1.length < (ch :: r).length := hch.2
    have hi2 : itmB s g (xs, xo) r1 z w' := hi
    dsimp only at hC
    unfold itmB at hi2
    split at hC
    · next r2 =>
      split at hC
      · obtain ⟨h1, h2⟩ := hi2
        refine hl (r' := []) ?_ (by simp) h2
        rw [hC]
        cases f with
        | zero => simp at hf
        | succ f => rfl
      · next d r3 =>
        change ite (d = 93) _ _ at hi2
        split at hC
        · next hd93 => rw [if_pos hd93] at hi2; exact hd hC hi2
        · next hd93 =>
          rw [if_neg hd93] at hi2
          have hch2 := chr_all (d :: r3)
          cases hq2 : chrP (d :: r3) with
          | err e k => rw [hq2] at hC hi2; exact hd hC hi2
          | ok y r4 =>
            obtain ⟨ys, yo⟩ := y
            rw [hq2] at hC hi2 hch2
            have hlen2 : r4.length < (d :: r3).length := hch2.2
            cases xo with
            | none => exact hd hC hi2
            | some lo =>
              cases yo with
              | none => exact hd hC hi2
              | some hi =>
                change ite (hi < lo) _ _ at hi2
                dsimp only at hC
                split at hC
                · next h => rw [if_pos h] at hi2; exact hd hC hi2
                · next h =>
                  rw [if_neg h] at hi2
                  rw [← hi2.1] at hC
                  exact hl hC (by simp only [List.length_cons] at hlen hlen2 ⊢; omega) hi2.2
    · next hne =>
      have hi3 : z = xs ∧ live w' g s r1 := by
        split at hi2
        · next r2 => exact absurd rfl (hne r2)
        · exact hi2
      rw [← hi3.1] at hC
      exact hl hC hlen hi3.2
end Go.Proofs.YtabcehifdomolaaDoor.Ecl
namespace Go.Proofs.YtabcehifdomolaaDoor.Ecm
open Go.RowKit Go.PlainAid Go.Proofs.YtabcehifdomolaaDoor.Vm Go.Proofs.YtabcehifdomolaaDoor.Vo Go.Proofs.YtabcehifdomolaaDoor.Bw Go.Proofs.YtabcehifdomolaaDoor.Na Go.Proofs.YtabcehifdomolaaDoor.Tm Go.Proofs.YtabcehifdomolaaDoor.Ts Go.Proofs.YtabcehifdomolaaDoor.Ta Go.Proofs.YtabcehifdomolaaDoor.Tb Go.Proofs.YtabcehifdomolaaDoor.Td Go.Proofs.YtabcehifdomolaaDoor.Tf Go.Proofs.YtabcehifdomolaaDoor.Rm Go.Proofs.YtabcehifdomolaaDoor.Rs Go.Proofs.YtabcehifdomolaaDoor.Rv Go.Proofs.YtabcehifdomolaaDoor.Ru Go.Proofs.YtabcehifdomolaaDoor.Ra Go.Proofs.YtabcehifdomolaaDoor.Ed Go.Proofs.YtabcehifdomolaaDoor.Ep Go.Proofs.YtabcehifdomolaaDoor.Em Go.Proofs.YtabcehifdomolaaDoor.Ek Go.Proofs.YtabcehifdomolaaDoor.Er Go.Proofs.YtabcehifdomolaaDoor.Eo Go.Proofs.YtabcehifdomolaaDoor.Es Go.Proofs.YtabcehifdomolaaDoor.Et Go.Proofs.YtabcehifdomolaaDoor.Ex Go.Proofs.YtabcehifdomolaaDoor.Ech Go.Proofs.YtabcehifdomolaaDoor.Ez Go.Proofs.YtabcehifdomolaaDoor.Eit Go.Proofs.YtabcehifdomolaaDoor.Eu Go.Proofs.YtabcehifdomolaaDoor.Ecl

theorem midC_le {s : ByteArray} {K : Nat} {neg : Bool} {acc : List Nat} {C : Out (List Nat)} {a : Nat} {c q : Int} (h : midC s K neg acc C a c q) : a ≤ s.size := by
  rcases h with ⟨_, _, h, _⟩ | ⟨h, _⟩
  · exact h
  · omega
/-- What comes of a class. -/
def claA (s : ByteArray) (g K : Nat) (C : Out (List Nat)) (z : List Nat) (w' : World) : Prop :=
  isSet z ∧ ((∃ r', C = (if z = zero then .err 17 K else .ok z r') ∧ live w' g s (93 :: r')) ∨ (C = .err 16 K ∧ live w' g s []) ∨ (∃ e k, C = .err e k ∧ dead w' g s e k))
theorem mid_end {s : ByteArray} {g K : Nat} {neg : Bool} {acc z : List Nat} {C : Out (List Nat)} {a : Nat} {c q : Int} {w : World} (h : midC s K neg acc C a c q) (p : par w g s a c q) (he : rst s a = [] ∨ ∃ r, rst s a = 93 :: r) (hz : z = if neg = true then notL acc else acc) (hs : isSet z) : claA s g K C z w := by
  refine ⟨hs, ?_⟩
  rcases h with ⟨rfl, rfl, h1, f, hf, hC⟩ | ⟨rfl, e, k, h2, rfl, rfl, hC⟩
  · obtain ⟨f, rfl⟩ : ∃ f', f = f' + 1 := ⟨f - 1, by omega⟩
    rcases he with he | ⟨r, he⟩
    · rw [he] at hC
      exact .inr (.inl ⟨hC, a, h1, p, he⟩)
    · rw [he] at hC
      refine .inl ⟨r, ?_, a, h1, p, he⟩
      rw [hC, clsP, if_pos rfl, ← hz]
  · exact .inr (.inr ⟨e, k, hC, h2, p⟩)
set_option maxHeartbeats 4000000 in
set_option maxRecDepth 100000 in
theorem class_any {g : Nat} {s : ByteArray} {a0 K : Nat} {neg : Bool} {r1 : List Nat} (hs : s.size ≤ 1000000) (ha : a0 ≤ s.size) (hneg : rst s a0 = if neg = true then 94 :: r1 else r1) (hn2 : neg = false → ∀ r, r1 ≠ 94 :: r) {w : World} (H : Hid (par w g s a0 0 0)) :
    Calls Tryd.prog 75 #[.pointer (some ⟨g, 0, none⟩)] w fun e w' => ∃ v z, e = .returned v ∧ slT w' v [⟨1, 0, z, 0, 0⟩] ∧ claA s g K (clsP K neg (r1.length + 1) zero r1) z w' ∧ Only (· = g) w w' := by
  obtain ⟨a1, ha1, hr1, HT⟩ : ∃ a1, a1 ≤ s.size ∧ rst s a1 = r1 ∧ Hid (∀ u, par u g s a0 0 0 → Calls Tryd.prog 34 #[.pointer (some ⟨g, 0, none⟩), .string ⟨#[94]⟩] u fun e w' => e = .returned (.bool neg) ∧ par w' g s a1 0 0 ∧ Only (· = g) u w') := by
    cases neg with
    | true =>
      have hr : rst s a0 = 94 :: r1 := hneg
      have h := rst_next hr
      exact ⟨a0 + 1, h.1, h.2.2.2, Lib.hid fun u h => take_yes hs ha (nx_yes in_94 hr rfl) h⟩
    | false =>
      have hr : rst s a0 = r1 := hneg
      refine ⟨a0, ha, hr, Lib.hid fun u h => take_no hs ha ?_ h⟩
      cases hc : r1 with
      | nil => exact nx_end (by rw [hr, hc])
      | cons c r => exact nx_no in_94 (by rw [hr, hc]) (fun e => hn2 rfl r (by rw [hc, e]))
  obtain ⟨C, hC⟩ : ∃ C, C = clsP K neg (r1.length + 1) zero r1 := ⟨_, rfl⟩
  have HM0 : Hid (midC s K neg zero C a1 0 0) := Lib.hid (.inl ⟨rfl, rfl, ha1, r1.length + 1, by rw [hr1]; exact Nat.le_refl _, by rw [hr1]; exact hC⟩)
  rw [← hC]
  clear hC hr1 ha1 hneg hn2 ha
  have HG := Lib.hid H.out.lt
  go_enter Tryd.func75, Tryd.ntmps75
  go_wp2_with (first | (go_at_call 34; refine (HT.out _ H.out).mono ?_; rintro e w1 ⟨rfl, p, o⟩; have HP1 := Lib.hid p; have HO1 := Lib.hid o; clear p o))
  obtain ⟨L, hL⟩ : ∃ L, L = w1.heap.size := ⟨_, rfl⟩
  obtain ⟨w2, hw2⟩ : ∃ w2, w2 = w1.alloc (.cells #[.int .u64 0, .int .u64 0, .int .u64 0, .int .u64 0] 36) := ⟨_, rfl⟩
  have HB2 : Hid (bS w w2 g s a1 0 0 L 36 (sv zero)) := Lib.hid (by rw [hw2, hL]; exact ⟨HP1.out.below (below_alloc _ _), Blk.fresh _ _ _, HO1.out.alloc _⟩)
  have HL : Hid (w.heap.size ≤ L ∧ g ≠ L) := Lib.hid (by have h1 := HO1.out.size; have h2 := HG.out; omega)
  rw [← hw2, ← hL]
  clear hw2 hL HT
  go_loopw [] (fun wr => ∃ (a : Nat) (c q : Int) (acc : List Nat), Hid (midC s K neg acc C a c q) ∧ Hid (isSet acc) ∧ Hid (bS w wr g s a c q L 36 (sv acc))) (fun wr => meaW wr g s.size)
  case atStart => exact ⟨a1, 0, 0, zero, HM0, Lib.hid zero_set, HB2⟩
  case round =>
    obtain ⟨a, c, q, acc, HM, HA, HB⟩ := hrel
    have HMM := Lib.hid (meaW_par HB.out.p s.size)
    have has : (a : Int) ≤ 1000000 := by have := midC_le HM.out; omega
    have c0 := HB.out.p.c0
    have c1 := HB.out.p.c1
    have HX : Hid (∀ n, Calls Tryd.prog 50 #[.pointer (some ⟨g, 0, none⟩), .string ⟨#[93]⟩] (wr.drewN n) fun e w' => e = .returned (.bool (nxQ ⟨#[93]⟩ (rst s a))) ∧ ∃ m, w' = (wr.drewN n).drewN m) := Lib.hid (fun n => next_any _ (Lib.hid (HB.out.p.draws n)))
    rcases Nat.lt_or_ge a s.size with hlt | hge
    · obtain ⟨ch, hch, hr, hbt⟩ := rst_cons hlt
      have hd : (a : Int) < (s.size : Int) := by omega
      by_cases h93 : ch = 93
      · subst h93
        have hx : nxQ ⟨#[93]⟩ (rst s a) = true := nx_yes in_93 hr rfl
        rw [hx] at HX
        have HEE : Hid (rst s a = [] ∨ ∃ r, rst s a = 93 :: r) := Lib.hid (.inr ⟨_, hr⟩)
        clear hr hx hbt hlt hch
        cases neg with
        | true =>
          obtain ⟨z, hz⟩ : ∃ z, z = sv acc := ⟨_, rfl⟩
          obtain ⟨hz4, hz1⟩ := set4 HA.out hz
          have HZ4 := Lib.hid hz4
          have HZ1 := Lib.hid hz1
          obtain ⟨y, hy⟩ : ∃ y, y = sv (notL acc) := ⟨_, rfl⟩
          obtain ⟨hy4, hy1⟩ := set4 (notL_set HA.out) hy
          have HY4 := Lib.hid hy4
          have HY1 := Lib.hid hy1
          have HN : Hid (∀ w, Calls Tryd.prog 41 #[.agg z] w fun e w' => e = .returned (.agg y) ∧ Below w.heap.size w w') := Lib.hid (fun w => by have := Not_any HA.out w; rw [← hy, ← hz] at this; exact this)
          have HONE : Hid (∀ w, Calls Tryd.prog 76 #[.agg y] w fun e w' => ∃ v', e = .returned v' ∧ slT w' v' [⟨1, 0, notL acc, 0, 0⟩] ∧ Below w.heap.size w w') := Lib.hid (fun w => by rw [hy]; exact one_any (notL_set HA.out) w)
          have HBz : Hid (bS w wr g s a c q L 36 z) := Lib.hid (by rw [hz]; exact HB.out)
          clear hz hz4 hz1 hy hy4 hy1
          go_wp2
          go_quiet (first | (go_at_call 50; exact Calls.quiet_of (HX.out _)))
          simp only [Exit.then]
          clear c0 c1
          obtain ⟨w3, hw3⟩ : ∃ w3, w3 = wr.drewN nq := ⟨_, rfl⟩
          have HB3 : Hid (bS w w3 g s a c q L 36 z) := Lib.hid (by rw [hw3]; exact HBz.out.below (below_draws _ _))
          try rw [← hw3]
          clear hw3
          go_wp2_with (first | refine wpList_load_row rfl 36 _ rfl L rfl _ _ _ _ HB3.out.b Tryd.underlying36 rfl (fit HZ4.out) ?_ | (go_at_call 41; refine (HN.out _).mono ?_; rintro e w4 ⟨rfl, k4⟩; have HB4 := Lib.hid (HB3.out.below k4); clear k4) | (refine wpList_store_row rfl 36 _ _ rfl L y rfl rfl _ _ HB4.out.b (fit HY4.out) (Eq.trans HZ4.out HY4.out.symm) HY1.out ?_) | refine wpList_load_row rfl 36 _ rfl L rfl _ _ _ _ (setRow_heap _ _ _ _ _ _ HB4.out.b) Tryd.underlying36 rfl (fit HY4.out) ?_ | (go_at_call 76; refine (HONE.out _).mono ?_; rintro e w6 ⟨v6, rfl, ⟨A6, c6, rfl, h6⟩, k6⟩; have HS6 := Lib.hid h6; have HK6 := Lib.hid k6; clear h6 k6))
          go_ret
          exact ⟨_, notL acc, rfl, ⟨A6, c6, rfl, HS6.out⟩, mid_end HM.out ((par_row HB4.out.p HL.out.2 _).below HK6.out) HEE.out rfl (notL_set HA.out), ((only_row HB4.out.o HL.out.1 _).trans (Only.of_below HK6.out))⟩
        | false =>
          obtain ⟨z, hz⟩ : ∃ z, z = sv acc := ⟨_, rfl⟩
          obtain ⟨hz4, hz1⟩ := set4 HA.out hz
          have HZ4 := Lib.hid hz4
          have HZ1 := Lib.hid hz1
          have HONE : Hid (∀ w, Calls Tryd.prog 76 #[.agg z] w fun e w' => ∃ v', e = .returned v' ∧ slT w' v' [⟨1, 0, acc, 0, 0⟩] ∧ Below w.heap.size w w') := Lib.hid (fun w => by rw [hz]; exact one_any HA.out w)
          have HBz : Hid (bS w wr g s a c q L 36 z) := Lib.hid (by rw [hz]; exact HB.out)
          clear hz hz4 hz1
          go_wp2
          go_quiet (first | (go_at_call 50; exact Calls.quiet_of (HX.out _)))
          simp only [Exit.then]
          clear c0 c1
          obtain ⟨w3, hw3⟩ : ∃ w3, w3 = wr.drewN nq := ⟨_, rfl⟩
          have HB3 : Hid (bS w w3 g s a c q L 36 z) := Lib.hid (by rw [hw3]; exact HBz.out.below (below_draws _ _))
          try rw [← hw3]
          clear hw3
          go_wp2_with (first | refine wpList_load_row rfl 36 _ rfl L rfl _ _ _ _ HB3.out.b Tryd.underlying36 rfl (fit HZ4.out) ?_ | (go_at_call 76; refine (HONE.out _).mono ?_; rintro e w6 ⟨v6, rfl, ⟨A6, c6, rfl, h6⟩, k6⟩; have HS6 := Lib.hid h6; have HK6 := Lib.hid k6; clear h6 k6))
          go_ret
          exact ⟨_, acc, rfl, ⟨A6, c6, rfl, HS6.out⟩, mid_end HM.out (HB3.out.p.below HK6.out) HEE.out rfl HA.out, (HB3.out.o.trans (Only.of_below HK6.out))⟩
      · have hx : nxQ ⟨#[93]⟩ (rst s a) = false := nx_no in_93 hr h93
        rw [hx] at HX
        have HMI : Hid (∀ (w' : World) (z : List Nat), itmS s g ch (rst s (a + 1)) z w' → ∃ a' c' q', par w' g s a' c' q' ∧ a < a' ∧ midC s K neg (orL acc z) C a' c' q') := Lib.hid (by
          rcases HM.out with ⟨_, _, _, f, hf, hC⟩ | ⟨h, _⟩
          · exact fun w' z h => midC_next hr h93 hf hC h
          · omega)
        obtain ⟨rfl, rfl⟩ : c = 0 ∧ q = 0 := by
          rcases HM.out with ⟨h1, h2, _⟩ | ⟨h, _⟩
          · exact ⟨h1, h2⟩
          · omega
        have HI : Hid (∀ u, par u g s a 0 0 → Calls Tryd.prog 88 #[.pointer (some ⟨g, 0, none⟩)] u fun e w' => ∃ z, e = .returned (.agg (sv z)) ∧ itmS s g ch (rst s (a + 1)) z w' ∧ Only (· = g) u w') := Lib.hid (fun u h => item_any hs hr h93 (Lib.hid h))
        have HLT := Lib.hid hlt
        clear hr hx hbt hlt hch HM
        obtain ⟨x0, x1, x2, x3, rfl⟩ := four_of HA.out
        have HOR : Hid (∀ z0 z1 z2 z3, isSet [z0, z1, z2, z3] → ∀ w, Calls Tryd.prog 87 #[.agg #[.int .u64 (x0 : Int), .int .u64 (x1 : Int), .int .u64 (x2 : Int), .int .u64 (x3 : Int)], .agg #[.int .u64 (z0 : Int), .int .u64 (z1 : Int), .int .u64 (z2 : Int), .int .u64 (z3 : Int)]] w fun e w' => ∃ y0 y1 y2 y3 : Nat, e = .returned (.agg #[.int .u64 (y0 : Int), .int .u64 (y1 : Int), .int .u64 (y2 : Int), .int .u64 (y3 : Int)]) ∧ orL [x0, x1, x2, x3] [z0, z1, z2, z3] = [y0, y1, y2, y3] ∧ Below w.heap.size w w') := Lib.hid (fun z0 z1 z2 z3 hz w => (Or_any HA.out hz w).mono fun e w' ⟨h1, h2⟩ => by
          obtain ⟨y0, y1, y2, y3, hy⟩ := four_of (orL_set HA.out hz)
          rw [hy] at h1
          exact ⟨y0, y1, y2, y3, h1, hy, h2⟩)
        go_wp2
        go_quiet (first | (go_at_call 50; exact Calls.quiet_of (HX.out _)))
        simp only [Exit.then]
        clear c0 c1
        obtain ⟨w3, hw3⟩ : ∃ w3, w3 = wr.drewN nq := ⟨_, rfl⟩
        have HB3 : Hid (bS w w3.drew g s a 0 0 L 36 (sv [x0, x1, x2, x3])) := Lib.hid (by rw [hw3]; exact (HB.out.below (below_draws _ _)).below (below_draws _ 1))
        try rw [← hw3]
        clear hw3
        go_wp2
        have HK := Lib.hid HB3.out.b
        obtain ⟨c0, c1, c2, c3⟩ := cells4 HK.out
        go_region_with (first | (go_at_call 88; refine (HI.out _ HB3.out.p).mono ?_; rintro e w4 ⟨zz, rfl, hz, o⟩; obtain ⟨z0, z1, z2, z3, rfl⟩ := four_of hz.1; have HIT := Lib.hid hz; have HO4 := Lib.hid o; have HK := Lib.hid (HB3.out.b.only o HL.out.2.symm); clear hz o; obtain ⟨c0, c1, c2, c3⟩ := cells4 HK.out) | (go_at_call 87; refine (HOR.out z0 z1 z2 z3 HIT.out.1 _).mono ?_; rintro e w5 ⟨y0, y1, y2, y3, rfl, hy, k5⟩; have HY := Lib.hid hy; have HK5 := Lib.hid k5; have HK := Lib.hid (HK.out.below k5); clear hy k5; obtain ⟨d0, d1, d2, d3⟩ := cells4 HK.out; have f0 := HK.out.frozen 0; have f1 := HK.out.frozen 1; have f2 := HK.out.frozen 2; have f3 := HK.out.frozen 3))
        all_goals have H2 := Lib.hid (store4 (y0 := y0) (y1 := y1) (y2 := y2) (y3 := y3) HK.out)
        all_goals have HO5 := Lib.hid (only4 (w := w5) (g := L) (.int .u64 (y0 : Int)) (.int .u64 (y1 : Int)) (.int .u64 (y2 : Int)) (.int .u64 (y3 : Int)))
        all_goals generalize (((w5.setCell ⟨L, 0, none⟩ (.int .u64 (y0 : Int))).setCell ⟨L, 1, none⟩ (.int .u64 (y1 : Int))).setCell ⟨L, 2, none⟩ (.int .u64 (y2 : Int))).setCell ⟨L, 3, none⟩ (.int .u64 (y3 : Int)) = w9 at *
        all_goals try simp only [Exit.then]
        all_goals go_wp2
        all_goals have HP9 : Hid (∀ a' c' q', par w4 g s a' c' q' → par w9 g s a' c' q') := Lib.hid (fun a' c' q' h => par.only1 (h.below HK5.out) HO5.out HL.out.2)
        all_goals have HO9 : Hid (Only (· = g) w w9) := Lib.hid (((HB3.out.o.trans HO4.out).trans (Only.of_below HK5.out)).then HO5.out (fun i hi hl => by have := HL.out.1; omega))
        all_goals obtain ⟨a', c', q', p', hlt', hm'⟩ := HMI.out w4 _ HIT.out
        all_goals have HQ9 := Lib.hid (HP9.out _ _ _ p')
        all_goals have HM9 := Lib.hid hm'
        all_goals have HL9 := Lib.hid hlt'
        all_goals clear p' hlt' hm'
        all_goals go_roundw
        case rel => exact ⟨a', c', q', _, HM9, Lib.hid (orL_set HA.out HIT.out.1), Lib.hid ⟨HQ9.out, by rw [HY.out]; exact H2.out, HO9.out⟩⟩
        case measure => rw [HMM.out, meaW_par HQ9.out]; have := HL9.out; have := HLT.out; omega
        case rel => exact ⟨a', c', q', _, HM9, Lib.hid (orL_set HA.out HIT.out.1), Lib.hid ⟨HQ9.out, by rw [HY.out]; exact H2.out, HO9.out⟩⟩
        case measure => rw [HMM.out, meaW_par HQ9.out]; have := HL9.out; have := HLT.out; omega
    · have hd : (a < s.size) = False := eq_false (by omega)
      have HEE : Hid (rst s a = [] ∨ ∃ r, rst s a = 93 :: r) := Lib.hid (.inl (rst_nil hge))
      clear hge HX
      cases neg with
      | true =>
        obtain ⟨z, hz⟩ : ∃ z, z = sv acc := ⟨_, rfl⟩
        obtain ⟨hz4, hz1⟩ := set4 HA.out hz
        have HZ4 := Lib.hid hz4
        have HZ1 := Lib.hid hz1
        obtain ⟨y, hy⟩ : ∃ y, y = sv (notL acc) := ⟨_, rfl⟩
        obtain ⟨hy4, hy1⟩ := set4 (notL_set HA.out) hy
        have HY4 := Lib.hid hy4
        have HY1 := Lib.hid hy1
        have HN : Hid (∀ w, Calls Tryd.prog 41 #[.agg z] w fun e w' => e = .returned (.agg y) ∧ Below w.heap.size w w') := Lib.hid (fun w => by have := Not_any HA.out w; rw [← hy, ← hz] at this; exact this)
        have HONE : Hid (∀ w, Calls Tryd.prog 76 #[.agg y] w fun e w' => ∃ v', e = .returned v' ∧ slT w' v' [⟨1, 0, notL acc, 0, 0⟩] ∧ Below w.heap.size w w') := Lib.hid (fun w => by rw [hy]; exact one_any (notL_set HA.out) w)
        have HBz : Hid (bS w wr g s a c q L 36 z) := Lib.hid (by rw [hz]; exact HB.out)
        clear hz hz4 hz1 hy hy4 hy1
        go_wp2
        go_quiet (fail)
        simp only [Exit.then]
        clear c0 c1
        obtain ⟨w3, hw3⟩ : ∃ w3, w3 = wr.drewN nq := ⟨_, rfl⟩
        have HB3 : Hid (bS w w3 g s a c q L 36 z) := Lib.hid (by rw [hw3]; exact HBz.out.below (below_draws _ _))
        try rw [← hw3]
        clear hw3
        go_wp2_with (first | refine wpList_load_row rfl 36 _ rfl L rfl _ _ _ _ HB3.out.b Tryd.underlying36 rfl (fit HZ4.out) ?_ | (go_at_call 41; refine (HN.out _).mono ?_; rintro e w4 ⟨rfl, k4⟩; have HB4 := Lib.hid (HB3.out.below k4); clear k4) | (refine wpList_store_row rfl 36 _ _ rfl L y rfl rfl _ _ HB4.out.b (fit HY4.out) (Eq.trans HZ4.out HY4.out.symm) HY1.out ?_) | refine wpList_load_row rfl 36 _ rfl L rfl _ _ _ _ (setRow_heap _ _ _ _ _ _ HB4.out.b) Tryd.underlying36 rfl (fit HY4.out) ?_ | (go_at_call 76; refine (HONE.out _).mono ?_; rintro e w6 ⟨v6, rfl, ⟨A6, c6, rfl, h6⟩, k6⟩; have HS6 := Lib.hid h6; have HK6 := Lib.hid k6; clear h6 k6))
        go_ret
        exact ⟨_, notL acc, rfl, ⟨A6, c6, rfl, HS6.out⟩, mid_end HM.out ((par_row HB4.out.p HL.out.2 _).below HK6.out) HEE.out rfl (notL_set HA.out), ((only_row HB4.out.o HL.out.1 _).trans (Only.of_below HK6.out))⟩
      | false =>
        obtain ⟨z, hz⟩ : ∃ z, z = sv acc := ⟨_, rfl⟩
        obtain ⟨hz4, hz1⟩ := set4 HA.out hz
        have HZ4 := Lib.hid hz4
        have HZ1 := Lib.hid hz1
        have HONE : Hid (∀ w, Calls Tryd.prog 76 #[.agg z] w fun e w' => ∃ v', e = .returned v' ∧ slT w' v' [⟨1, 0, acc, 0, 0⟩] ∧ Below w.heap.size w w') := Lib.hid (fun w => by rw [hz]; exact one_any HA.out w)
        have HBz : Hid (bS w wr g s a c q L 36 z) := Lib.hid (by rw [hz]; exact HB.out)
        clear hz hz4 hz1
        go_wp2
        go_quiet (fail)
        simp only [Exit.then]
        clear c0 c1
        obtain ⟨w3, hw3⟩ : ∃ w3, w3 = wr.drewN nq := ⟨_, rfl⟩
        have HB3 : Hid (bS w w3 g s a c q L 36 z) := Lib.hid (by rw [hw3]; exact HBz.out.below (below_draws _ _))
        try rw [← hw3]
        clear hw3
        go_wp2_with (first | refine wpList_load_row rfl 36 _ rfl L rfl _ _ _ _ HB3.out.b Tryd.underlying36 rfl (fit HZ4.out) ?_ | (go_at_call 76; refine (HONE.out _).mono ?_; rintro e w6 ⟨v6, rfl, ⟨A6, c6, rfl, h6⟩, k6⟩; have HS6 := Lib.hid h6; have HK6 := Lib.hid k6; clear h6 k6))
        go_ret
        exact ⟨_, acc, rfl, ⟨A6, c6, rfl, HS6.out⟩, mid_end HM.out (HB3.out.p.below HK6.out) HEE.out rfl HA.out, (HB3.out.o.trans (Only.of_below HK6.out))⟩
end Go.Proofs.YtabcehifdomolaaDoor.Ecm
namespace Go.Proofs.YtabcehifdomolaaDoor.Epa
open Go.RowKit Go.PlainAid Go.Proofs.YtabcehifdomolaaDoor.Vm Go.Proofs.YtabcehifdomolaaDoor.Vo Go.Proofs.YtabcehifdomolaaDoor.Bw Go.Proofs.YtabcehifdomolaaDoor.Na Go.Proofs.YtabcehifdomolaaDoor.Ko Go.Proofs.YtabcehifdomolaaDoor.Tm Go.Proofs.YtabcehifdomolaaDoor.Ts Go.Proofs.YtabcehifdomolaaDoor.Ta Go.Proofs.YtabcehifdomolaaDoor.Tb Go.Proofs.YtabcehifdomolaaDoor.Td Go.Proofs.YtabcehifdomolaaDoor.Tf Go.Proofs.YtabcehifdomolaaDoor.Rm Go.Proofs.YtabcehifdomolaaDoor.Rs Go.Proofs.YtabcehifdomolaaDoor.Rv Go.Proofs.YtabcehifdomolaaDoor.Ru Go.Proofs.YtabcehifdomolaaDoor.Ra Go.Proofs.YtabcehifdomolaaDoor.Ed Go.Proofs.YtabcehifdomolaaDoor.Ep Go.Proofs.YtabcehifdomolaaDoor.Er Go.Proofs.YtabcehifdomolaaDoor.Eo Go.Proofs.YtabcehifdomolaaDoor.Es Go.Proofs.YtabcehifdomolaaDoor.Eu

/-- Writes to the parser leave a slice of nodes. -/
theorem slT.apart {w w' : World} {v : Value} {l : List Nd} (h : slT w v l) {g : Nat} {s : ByteArray} {a : Nat} {c q : Int} (p : par w g s a c q) (k : Only (· = g) w w') : slT w' v l :=
  h.only k (fun i hi _ => by subst hi; exact ⟨_, _, p, by decide⟩)
/-- A row of lists of nodes, the row's block named. -/
def rowsB (w : World) (base : Nat) (v : Value) (ls : List (List Nd)) : Prop := ∃ L, vs w base 22 v L ∧ L.length = ls.length ∧ ∀ (j : Nat) l, ls[j]? = some l → ∃ x, L[j]? = some x ∧ slT w x l
theorem rowsB.rows {w : World} {base : Nat} {v : Value} {ls : List (List Nd)} (h : rowsB w base v ls) : rows w v ls := ⟨base, h⟩
theorem rowsB_nil (w : World) (base : Nat) : rowsB w base (.slice none 0 0) [] := ⟨[], vs_nil _ _ _, rfl, fun j l h => by simp at h⟩
theorem rowsB.form {w : World} {base : Nat} {v : Value} {ls : List (List Nd)} (h : rowsB w base v ls) : ∃ A cap, v = .slice A ls.length cap := rows.form h.rows
theorem rowsB.below {w w' : World} {base : Nat} {v : Value} {ls : List (List Nd)} (h : rowsB w base v ls) (k : Below w.heap.size w w') : rowsB w' base v ls := by
  obtain ⟨L, h1, h2, h3⟩ := h
  exact ⟨L, h1.below k, h2, fun j l hj => by obtain ⟨x, hx, hs⟩ := h3 j l hj; exact ⟨x, hx, hs.below k⟩⟩
theorem rowsB.apart {w w' : World} {base : Nat} {v : Value} {ls : List (List Nd)} (h : rowsB w base v ls) {g : Nat} {s : ByteArray} {a : Nat} {c q : Int} (p : par w g s a c q) (hg : g < base) (k : Only (· = g) w w') : rowsB w' base v ls := by
  obtain ⟨L, h1, h2, h3⟩ := h
  exact ⟨L, h1.only k (fun i hi e => by have := (h1.lo i hi).1; omega), h2, fun j l hj => by obtain ⟨x, hx, hs⟩ := h3 j l hj; exact ⟨x, hx, slT.apart hs p k⟩⟩
theorem rowsB_lit {w : World} {base : Nat} (hb : base ≤ w.heap.size) {v : Value} {l : List Nd} (h : slT w v l) : rowsB (w.alloc (.cells #[v] 22)) base (.slice (some ⟨w.heap.size, 0, none⟩) 1 1) [l] :=
  ⟨[v], vs_lit hb, rfl, fun j l' hj => by
    match j, hj with
    | 0, hj =>
      injection hj with hj
      subst hj
      exact ⟨v, rfl, h.below (below_alloc w _)⟩⟩
/-- 'append(v, x)', x a slice of nodes in a cell of its own. -/
theorem wpList_rowsB {ops : Array Oper} {rest : List Oper} {o : Oper} {a : Act} {Q : Exit → Act → World → Prop} (hgd : o.guard = none) (s x : Operand)
    (ho : o.op = .call { callee := .builtin .append, args := #[s, x], argTypes := #[49, 49] }) {base : Nat} {w : World} (hb : base ≤ w.heap.size)
    {v : Value} {ls : List (List Nd)} (hs : a.eval s = v) (hown : rowsB w base v ls) (c : Value) {l : List Nd} (hc : slT w c l) {m k : Nat} (hm : m = 1) (hx : a.eval x = .slice (some ⟨w.heap.size, 0, none⟩) m k)
    (hlen : ls.length ≤ 1000000)
    (h : ∀ v' w', rowsB w' base v' (ls ++ [l]) → Only (fun i => v.ownBlock = some i) w w' → wpList Tryd.prog ops Q rest (a.put o.dst v') w') : wpList Tryd.prog ops Q (o :: rest) a (w.alloc (.cells #[c] 22)) := by
  obtain ⟨L, h1, h2, h3⟩ := hown
  obtain ⟨i0, hi, hz0, hz1, hz2⟩ := info_parts infoSN
  have hc1 := hc.sl.one
  refine wpList_append_own_at _ hgd s x _ ho base _ i0 _ 1 24 Tryd.underlying49 hi hz0 hz1 hz2 rfl (by decide) v L.length L hs (World.ownsRow.alloc h1 _) ⟨w.heap.size, 0, none⟩ m k [c] hx (by rw [hm]; rfl) (cell_one_new _ _ _) (by intro u hu; simp at hu; subst hu; exact hc1) (by unfold maxLen; omega) (by rw [hm]; omega) (by rw [size_alloc]; omega) (fun v' w' g2 g3 _ _ => ?_)
  have ho : Only (fun i => v.ownBlock = some i) w w' := ((Only.refl _ w).alloc _).grown g3 (fun i hi _ => hi)
  have hS : ∀ i, v.ownBlock = some i → i < w.heap.size → ∃ t cs, Blk w i t cs ∧ t ≠ 38 := fun i hi _ => by
    rcases h1.2 with ⟨e, _⟩ | ⟨g, _, cur, e, _, hh, _⟩
    · rw [e] at hi; simp [Value.ownBlock] at hi
    · rw [e] at hi
      simp [Value.ownBlock] at hi
      subst hi
      exact ⟨_, cur, hh, by decide⟩
  refine h v' w' ⟨L ++ [c], ?_, by simp [h2], fun j l' hj => ?_⟩ ho
  · show w'.ownsRow base _ 1 v' (L ++ [c]).length (L ++ [c])
    rw [List.length_append, show [c].length = m by rw [hm]; rfl]
    exact g2
  · rcases Nat.lt_or_ge j ls.length with hlt | hge
    · rw [List.getElem?_append_left hlt] at hj
      obtain ⟨y, hy, hsy⟩ := h3 j l' hj
      exact ⟨y, by rw [List.getElem?_append_left (by omega)]; exact hy, hsy.only ho hS⟩
    · rw [List.getElem?_append_right hge] at hj
      match hjj : j - ls.length, hj with
      | 0, hj =>
        injection hj with hj
        subst hj
        exact ⟨c, by rw [List.getElem?_append_right (by omega), show j - L.length = 0 by omega]; rfl, hc.only ho hS⟩
/-- What comes of a part that was read from place a on. -/
def res (s : ByteArray) (g B a : Nat) (o : Out T) (l : List Nd) (w' : World) : Prop := match o with
  | .ok t r => l = enc t ∧ okT t ∧ ∃ a', a ≤ a' ∧ a' ≤ s.size ∧ rst s a' = r ∧ par w' g s a' 0 0 ∧ l.length + 1 ≤ 2 * (a' - a) + B
  | .err e k => dead w' g s e k ∧ l.length + 1 ≤ 2 * (s.size - a) + B
/-- A method that reads a part. -/
def reads (f : FuncId) (pt : Pt) (B n : Nat) : Prop := ∀ (s : ByteArray) (g a F : Nat) (w : World), s.size ≤ 512 → a ≤ s.size → s.size - a ≤ n → (B = 0 → ∃ c r, rst s a = c :: r ∧ c ≠ 124 ∧ c ≠ 41) → need pt (s.size - a) ≤ F → par w g s a 0 0 →
  Calls Tryd.prog f #[.pointer (some ⟨g, 0, none⟩)] w fun e w' => ∃ v l, e = .returned v ∧ slT w' v l ∧ res s g B a (prs F pt (rst s a)) l w' ∧ Only (· = g) w w'
theorem reads.mono {f : FuncId} {pt : Pt} {B n m : Nat} (h : reads f pt B n) (hm : m ≤ n) : reads f pt B m := fun s g a F w h1 h2 h3 h4 h5 h6 => h s g a F w h1 h2 (by omega) h4 h5 h6
theorem encs_flat : ∀ l : List T, encs l = (l.map enc).flatten
  | [] => rfl
  | t :: l => by rw [encs, encs_flat l]; rfl
theorem join_alt {acc : List T} (h : acc ≠ []) : joinN 4 (acc.map enc) = enc (many .alt acc) := by
  match acc, h with
  | [t], _ => rfl
  | a :: b :: l, _ =>
    show (⟨4, _, zero, 0, 0⟩ : Nd) :: _ = enc (.alt (a :: b :: l))
    rw [enc, encs_flat]
    simp
theorem join_cat (acc : List T) : joinN 3 (acc.map enc) = enc (if acc = [] then .emp else many .cat acc) := by
  match acc with
  | [] => rfl
  | [t] => rw [if_neg (by simp)]; rfl
  | a :: b :: l =>
    rw [if_neg (by simp)]
    show (⟨3, _, zero, 0, 0⟩ : Nd) :: _ = enc (.cat (a :: b :: l))
    rw [enc, encs_flat]
    simp
theorem join_len (k : Int) (ls : List (List Nd)) : (joinN k ls).length + (if ls.length = 1 then 1 else 0) = ls.flatten.length + 1 := by
  match ls with
  | [] => rfl
  | [l] => simp [joinN]
  | a :: b :: l => rw [if_neg (by simp)]; rfl
end Go.Proofs.YtabcehifdomolaaDoor.Epa
namespace Go.Proofs.YtabcehifdomolaaDoor.Eal
open Go.RowKit Go.PlainAid Go.Proofs.YtabcehifdomolaaDoor.Vm Go.Proofs.YtabcehifdomolaaDoor.Vo Go.Proofs.YtabcehifdomolaaDoor.Bw Go.Proofs.YtabcehifdomolaaDoor.Na Go.Proofs.YtabcehifdomolaaDoor.Ko Go.Proofs.YtabcehifdomolaaDoor.Tm Go.Proofs.YtabcehifdomolaaDoor.Ts Go.Proofs.YtabcehifdomolaaDoor.Ta Go.Proofs.YtabcehifdomolaaDoor.Tb Go.Proofs.YtabcehifdomolaaDoor.Td Go.Proofs.YtabcehifdomolaaDoor.Tf Go.Proofs.YtabcehifdomolaaDoor.Rm Go.Proofs.YtabcehifdomolaaDoor.Rs Go.Proofs.YtabcehifdomolaaDoor.Rv Go.Proofs.YtabcehifdomolaaDoor.Ru Go.Proofs.YtabcehifdomolaaDoor.Ra Go.Proofs.YtabcehifdomolaaDoor.Ed Go.Proofs.YtabcehifdomolaaDoor.Ep Go.Proofs.YtabcehifdomolaaDoor.Er Go.Proofs.YtabcehifdomolaaDoor.Eo Go.Proofs.YtabcehifdomolaaDoor.Es Go.Proofs.YtabcehifdomolaaDoor.Eu Go.Proofs.YtabcehifdomolaaDoor.Epa

/-- Where alt stands: C is what comes of it in all. -/
def midA (s : ByteArray) (a0 : Nat) (C : Out T) (ls : List (List Nd)) (a : Nat) (c q : Int) : Prop :=
  ls ≠ [] ∧ a0 ≤ a ∧ a ≤ s.size ∧ ls.flatten.length + ls.length ≤ 2 * (a - a0) + 2 ∧
  ((c = 0 ∧ q = 0 ∧ ∃ acc F, okTs acc ∧ ls = acc.map enc ∧ need (.alts acc) (s.size - a) ≤ F ∧ C = prs F (.alts acc) (rst s a)) ∨ (a = s.size ∧ ∃ e k : Nat, e ≠ 0 ∧ c = (e : Int) ∧ q = ((s.size - k : Nat) : Int) ∧ C = .err e k))
section
variable {s : ByteArray} {g a0 a : Nat} {C : Out T} {ls : List (List Nd)} {l : List Nd} {c q : Int} {w : World}
theorem midA_start {f : Nat} (ha : a0 ≤ s.size) (hF : need .alt (s.size - a0) ≤ f + 1) (hC : C = prs (f + 1) .alt (rst s a0)) (h : res s g 2 a0 (prs f (.cat []) (rst s a0)) l w) : ∃ a c q, par w g s a c q ∧ midA s a0 C [l] a c q := by
  rw [prs] at hC
  cases hq : prs f (.cat []) (rst s a0) with
  | err e k =>
    rw [hq] at h hC
    obtain ⟨h1, h2⟩ := h
    exact ⟨_, _, _, h1.2, by simp, ha, Nat.le_refl _, by simp; omega, .inr ⟨rfl, e, k, h1.1, rfl, rfl, hC⟩⟩
  | ok t r =>
    rw [hq] at h hC
    obtain ⟨h1, h2, a', h3, h4, h5, h6, h7⟩ := h
    refine ⟨a', 0, 0, h6, by simp, h3, h4, by simp; omega, .inl ⟨rfl, rfl, [t], f, by unfold okTs; exact ⟨h2, by unfold okTs; trivial⟩, by simp [h1], ?_, by rw [h5]; exact hC⟩⟩
    simp only [need] at hF ⊢
    omega
theorem midA_next {F : Nat} {acc : List T} {r : List Nat} (hm : midA s a0 C ls a c q) (hr : rst s a = 124 :: r) (hr1 : rst s (a + 1) = r) (hok : okTs acc) (hls : ls = acc.map enc) (hF : need (.alts acc) (s.size - a) ≤ F + 1) (hC : C = prs (F + 1) (.alts acc) (rst s a)) (h : res s g 2 (a + 1) (prs F (.cat []) (rst s (a + 1))) l w) : ∃ a' c' q', par w g s a' c' q' ∧ a < a' ∧ midA s a0 C (ls ++ [l]) a' c' q' := by
  obtain ⟨h1, h2, h3, h4, _⟩ := hm
  have hlt : a < s.size := by have := rst_len s a; rw [hr, List.length_cons] at this; omega
  rw [hr, prs] at hC
  rw [if_pos rfl, ← hr1] at hC
  have hl : (ls ++ [l]).flatten.length + (ls ++ [l]).length = ls.flatten.length + ls.length + (l.length + 1) := by simp; omega
  cases hq : prs F (.cat []) (rst s (a + 1)) with
  | err e k =>
    rw [hq] at h hC
    obtain ⟨g1, g2⟩ := h
    exact ⟨_, _, _, g1.2, hlt, by simp, by omega, Nat.le_refl _, by omega, .inr ⟨rfl, e, k, g1.1, rfl, rfl, hC⟩⟩
  | ok t r2 =>
    rw [hq] at h hC
    obtain ⟨g1, g2, a', g3, g4, g5, g6, g7⟩ := h
    refine ⟨a', 0, 0, g6, by omega, by simp, by omega, g4, by omega, .inl ⟨rfl, rfl, acc ++ [t], F, okTs_snoc hok g2, by simp [hls, g1], ?_, by rw [g5]; exact hC⟩⟩
    simp only [need] at hF ⊢
    omega
theorem midA_end (hm : midA s a0 C ls a c q) (p : par w g s a c q) (he : nxQ ⟨#[124]⟩ (rst s a) = false) : res s g 2 a0 C (joinN 4 ls) w := by
  obtain ⟨h1, h2, h3, h4, h5⟩ := hm
  have hl := join_len 4 ls
  have hp : 1 ≤ ls.length := by cases ls with
    | nil => exact absurd rfl h1
    | cons x y => simp
  have hb : (joinN 4 ls).length + 1 ≤ 2 * (a - a0) + 2 := by
    split at hl <;> omega
  rcases h5 with ⟨rfl, rfl, acc, F, hok, rfl, hF, hC⟩ | ⟨rfl, e, k, h6, rfl, rfl, rfl⟩
  · have hne : acc ≠ [] := by rintro rfl; exact h1 rfl
    obtain ⟨F, rfl⟩ : ∃ f, F = f + 1 := ⟨F - 1, by simp only [need] at hF; omega⟩
    have hC2 : C = .ok (many .alt acc) (rst s a) := by
      rw [hC]
      cases hr : rst s a with
      | nil => rfl
      | cons ch r =>
        rw [prs, if_neg]
        rintro rfl
        rw [nx_yes in_124 hr rfl] at he
        cases he
    rw [hC2]
    exact ⟨join_alt hne, many_alt hne hok, a, h2, h3, rfl, p, hb⟩
  · exact ⟨⟨h6, p⟩, hb⟩
end
set_option maxHeartbeats 4000000 in
set_option maxRecDepth 100000 in
theorem alt_of {n : Nat} (HC : Hid (reads 33 (.cat []) 2 n)) : reads 22 .alt 2 n := by
  intro s g a0 F w hs ha hn _ hF H0
  obtain ⟨f, rfl⟩ : ∃ f, F = f + 1 := ⟨F - 1, by simp only [need] at hF; omega⟩
  have HG := Lib.hid H0.lt
  have hs1 : s.size ≤ 1000000 := by omega
  obtain ⟨C, hC⟩ : ∃ C, C = prs (f + 1) .alt (rst s a0) := ⟨_, rfl⟩
  have H1 : Hid (Calls Tryd.prog 33 #[.pointer (some ⟨g, 0, none⟩)] w fun e w' => ∃ v l, e = .returned v ∧ slT w' v l ∧ (∃ a c q, par w' g s a c q ∧ midA s a0 C [l] a c q) ∧ Only (· = g) w w') := Lib.hid ((HC.out s g a0 f w hs ha hn (by intro h; cases h) (by simp only [need] at hF ⊢; omega) H0).mono fun e w' ⟨v, l, h1, h2, h3, h4⟩ => ⟨v, l, h1, h2, midA_start ha hF hC h3, h4⟩)
  rw [← hC]
  have HN := Lib.hid hn
  have HS := Lib.hid hs
  clear hC hF ha H0 hn hs
  go_enter Tryd.func22, Tryd.ntmps22
  go_wp2_with (first | (go_at_call 33; refine H1.out.mono ?_; rintro e w1 ⟨v1, l1, rfl, ⟨A1, k1, rfl, hx⟩, ⟨a1, c1, q1, p1, hm⟩, o1⟩; have HS1 : Hid (slT w1 (.slice A1 l1.length k1) l1) := Lib.hid ⟨A1, k1, rfl, hx⟩; have HP1 := Lib.hid p1; have HM1 := Lib.hid hm; have HO1 := Lib.hid o1; clear hx p1 hm o1))
  obtain ⟨w2, hw2⟩ : ∃ w2, w2 = w1.alloc (.cells #[.slice A1 l1.length k1] 22) := ⟨_, rfl⟩
  have HR2 : Hid (rowsB w2 w.heap.size (.slice (some ⟨w1.heap.size, 0, none⟩) 1 1) [l1]) := Lib.hid (by rw [hw2]; exact rowsB_lit HO1.out.size HS1.out)
  have HP2 : Hid (par w2 g s a1 c1 q1) := Lib.hid (by rw [hw2]; exact HP1.out.below (below_alloc _ _))
  have HO2 : Hid (Only (· = g) w w2) := Lib.hid (by rw [hw2]; exact HO1.out.alloc _)
  rw [← hw2]
  clear hw2 H1
  go_loopw [3] (fun s3 wr => ∃ (ls : List (List Nd)) (a : Nat) (c q : Int), Hid (rowsB wr w.heap.size s3 ls) ∧ Hid (midA s a0 C ls a c q) ∧ Hid (par wr g s a c q) ∧ Hid (Only (· = g) w wr)) (fun _ wr => meaW wr g s.size)
  case atStart => exact ⟨[l1], a1, c1, q1, HR2, HM1, HP2, HO2⟩
  case round =>
    obtain ⟨ls, a, c, q, HR, HM, HP, HO⟩ := hrel
    have HMM := Lib.hid (meaW_par HP.out s.size)
    have has : a ≤ s.size := HM.out.2.2.1
    have HLS : Hid (ls.flatten.length ≤ 999000 ∧ ls.length ≤ 999000) := Lib.hid (by have := HM.out.2.2.2.1; have := HS.out; omega)
    obtain ⟨A, cap, hv⟩ := HR.out.form
    subst hv
    by_cases hx : nxQ ⟨#[124]⟩ (rst s a) = true
    · have hlt : a < s.size := by
        rcases Nat.lt_or_ge a s.size with h | h
        · exact h
        · rw [rst_nil h] at hx; cases hx
      obtain ⟨ch, hch, hr, _⟩ := rst_cons hlt
      have h124 : ch = 124 := by
        have h1 := in_124 ch hch
        rw [hr] at hx
        have h2 : inQ ⟨#[124]⟩ ch = true := hx
        rw [h2] at h1
        exact of_decide_eq_true h1.symm
      subst h124
      obtain ⟨acc, F, hok, hls, hF, hCC, rfl, rfl⟩ : ∃ acc F, okTs acc ∧ ls = acc.map enc ∧ need (.alts acc) (s.size - a) ≤ F + 1 ∧ C = prs (F + 1) (.alts acc) (rst s a) ∧ c = 0 ∧ q = 0 := by
        rcases HM.out.2.2.2.2 with ⟨h1, h2, acc, F, h3, h4, h5, h6⟩ | ⟨h, _⟩
        · obtain ⟨F, rfl⟩ : ∃ f, F = f + 1 := ⟨F - 1, by simp only [need] at h5; omega⟩
          exact ⟨acc, F, h3, h4, h5, h6, h1, h2⟩
        · omega
      have HT := Lib.hid (take_yes hs1 has hx HP.out)
      have HC2 : Hid (∀ u, par u g s (a + 1) 0 0 → Calls Tryd.prog 33 #[.pointer (some ⟨g, 0, none⟩)] u fun e w' => ∃ v l, e = .returned v ∧ slT w' v l ∧ (∃ a' c' q', par w' g s a' c' q' ∧ a < a' ∧ midA s a0 C (ls ++ [l]) a' c' q') ∧ Only (· = g) u w') := Lib.hid (fun u hu => by
        have hm := HM.out
        have h0 := HM.out.2.1
        refine (HC.out s g (a + 1) F u HS.out (by omega) (by have := HN.out; omega) (by intro h; cases h) (by simp only [need] at hF ⊢; omega) hu).mono ?_
        rintro e w' ⟨v, l, h1, h2, h3, h4⟩
        exact ⟨v, l, h1, h2, midA_next hm hr rfl hok hls hF hCC h3, h4⟩)
      have HLT := Lib.hid hlt
      clear hx hlt hr hch hok hls hF hCC has
      obtain ⟨n0, hn0⟩ : ∃ n0, n0 = ls.length := ⟨_, rfl⟩
      rw [← hn0]
      rw [← hn0] at HR
      have HN0 := Lib.hid hn0
      clear hn0
      go_wp2_with (first | (go_at_call 34; refine HT.out.mono ?_; rintro e w4 ⟨rfl, p4, o4⟩; have HP4 := Lib.hid p4; have HO4 := Lib.hid (HO.out.trans o4); have HR4 := Lib.hid (HR.out.apart HP.out HG.out o4); clear p4 o4) | (go_at_call 33; refine (HC2.out _ HP4.out).mono ?_; rintro e w5 ⟨v5, l5, rfl, ⟨A5, k5, rfl, hx⟩, ⟨a5, c5, q5, p5, hlt5, hm⟩, o5⟩; have HS5 : Hid (slT w5 (.slice A5 l5.length k5) l5) := Lib.hid ⟨A5, k5, rfl, hx⟩; have HP5 := Lib.hid p5; have HM5 := Lib.hid hm; have HL5 := Lib.hid hlt5; have HO5 := Lib.hid (HO4.out.trans o5); have HR5 := Lib.hid (HR4.out.apart HP4.out HG.out o5); clear hx p5 hm o5 hlt5) | (at_builtin; refine wpList_rowsB rfl _ _ rfl (base := w.heap.size) HO5.out.size (by rfl) HR5.out (.slice A5 l5.length k5) HS5.out rfl (by rfl) (by have := HLS.out; omega) ?_; intro v6 w6 h6 o6; have HR6 := Lib.hid h6; have HO6 := Lib.hid o6; clear h6 o6))
      have HOB : Hid (∀ i, (Value.slice A n0 cap).ownBlock = some i → w.heap.size ≤ i) := Lib.hid (fun i hi => by obtain ⟨L, h1, _⟩ := HR5.out; exact (h1.lo i hi).1)
      have HP6 : Hid (par w6 g s a5 c5 q5) := Lib.hid (Blk.only HP5.out HO6.out (fun h => by have := HOB.out _ h; have := HG.out; omega))
      have HO7 : Hid (Only (· = g) w w6) := Lib.hid (HO5.out.then HO6.out (fun i hi hl => by have := HOB.out _ hi; omega))
      go_roundw
      case rel => exact ⟨_, a5, c5, q5, HR6, HM5, HP6, HO7⟩
      case measure => rw [HMM.out, meaW_par HP6.out]; have := HL5.out; have := HLT.out; omega
    · have hxf : nxQ ⟨#[124]⟩ (rst s a) = false := by simpa using hx
      have HT := Lib.hid (take_no hs1 has hxf HP.out)
      have HX := Lib.hid hxf
      have HJ : Hid (∀ u, rowsB u w.heap.size (.slice A ls.length cap) ls → Calls Tryd.prog 35 #[.int .i64 4, .slice A ls.length cap] u fun e w' => ∃ v', e = .returned v' ∧ slT w' v' (joinN 4 ls) ∧ Below u.heap.size u w') := Lib.hid (fun u hu => join_any (by unfold in64; omega) HLS.out.1 HLS.out.2 (Lib.hid hu.rows))
      clear hx hxf has
      obtain ⟨n0, hn0⟩ : ∃ n0, n0 = ls.length := ⟨_, rfl⟩
      rw [← hn0] at HR HJ ⊢
      clear hn0
      go_wp2_with (first | (go_at_call 34; refine HT.out.mono ?_; rintro e w4 ⟨rfl, p4, o4⟩; have HP4 := Lib.hid p4; have HO4 := Lib.hid (HO.out.trans o4); have HR4 := Lib.hid (HR.out.apart HP.out HG.out o4); clear p4 o4) | (go_at_call 35; refine (HJ.out _ HR4.out).mono ?_; rintro e w5 ⟨v5, rfl, ⟨A5, k5, rfl, hx⟩, k⟩; have HS5 : Hid (slT w5 (.slice A5 (joinN 4 ls).length k5) (joinN 4 ls)) := Lib.hid ⟨A5, k5, rfl, hx⟩; have HK5 := Lib.hid k; clear hx k))
      go_ret
      exact ⟨_, _, rfl, HS5.out, midA_end HM.out (HP4.out.below HK5.out) HX.out, HO4.out.trans (Only.of_below HK5.out)⟩
end Go.Proofs.YtabcehifdomolaaDoor.Eal
namespace Go.Proofs.YtabcehifdomolaaDoor.Eca
open Go.RowKit Go.PlainAid Go.Proofs.YtabcehifdomolaaDoor.Vm Go.Proofs.YtabcehifdomolaaDoor.Vo Go.Proofs.YtabcehifdomolaaDoor.Bw Go.Proofs.YtabcehifdomolaaDoor.Na Go.Proofs.YtabcehifdomolaaDoor.Ko Go.Proofs.YtabcehifdomolaaDoor.Tm Go.Proofs.YtabcehifdomolaaDoor.Ts Go.Proofs.YtabcehifdomolaaDoor.Ta Go.Proofs.YtabcehifdomolaaDoor.Tb Go.Proofs.YtabcehifdomolaaDoor.Td Go.Proofs.YtabcehifdomolaaDoor.Tf Go.Proofs.YtabcehifdomolaaDoor.Rm Go.Proofs.YtabcehifdomolaaDoor.Rs Go.Proofs.YtabcehifdomolaaDoor.Rv Go.Proofs.YtabcehifdomolaaDoor.Ru Go.Proofs.YtabcehifdomolaaDoor.Ra Go.Proofs.YtabcehifdomolaaDoor.Ed Go.Proofs.YtabcehifdomolaaDoor.Ep Go.Proofs.YtabcehifdomolaaDoor.Er Go.Proofs.YtabcehifdomolaaDoor.Eo Go.Proofs.YtabcehifdomolaaDoor.Es Go.Proofs.YtabcehifdomolaaDoor.Eu Go.Proofs.YtabcehifdomolaaDoor.Epa

/-- Where cat stands: C is what comes of it in all. -/
def midK (s : ByteArray) (a0 : Nat) (C : Out T) (ls : List (List Nd)) (a : Nat) (c q : Int) : Prop :=
  a0 ≤ a ∧ a ≤ s.size ∧ ls.flatten.length + ls.length ≤ 2 * (a - a0) ∧
  ((c = 0 ∧ q = 0 ∧ ∃ acc F, okTs acc ∧ ls = acc.map enc ∧ need (.cat acc) (s.size - a) ≤ F ∧ C = prs F (.cat acc) (rst s a)) ∨ (a = s.size ∧ ∃ e k : Nat, e ≠ 0 ∧ c = (e : Int) ∧ q = ((s.size - k : Nat) : Int) ∧ C = .err e k))
section
variable {s : ByteArray} {g a0 a : Nat} {C : Out T} {ls : List (List Nd)} {l : List Nd} {c q : Int} {w : World}
theorem midK_next {F ch : Nat} {acc : List T} {r : List Nat} (hm : midK s a0 C ls a c q) (hr : rst s a = ch :: r) (hne : ¬ (ch = 124 ∨ ch = 41)) (hok : okTs acc) (hls : ls = acc.map enc) (hF : need (.cat acc) (s.size - a) ≤ F + 1) (hC : C = prs (F + 1) (.cat acc) (rst s a)) (h : res s g 0 a (prs F .rep (rst s a)) l w) : ∃ a' c' q', par w g s a' c' q' ∧ a < a' ∧ midK s a0 C (ls ++ [l]) a' c' q' := by
  obtain ⟨h2, h3, h4, _⟩ := hm
  have hlt : a < s.size := by have := rst_len s a; rw [hr, List.length_cons] at this; omega
  rw [hr, prs] at hC
  rw [if_neg hne, ← hr] at hC
  have hl : (ls ++ [l]).flatten.length + (ls ++ [l]).length = ls.flatten.length + ls.length + (l.length + 1) := by simp; omega
  cases hq : prs F .rep (rst s a) with
  | err e k =>
    rw [hq] at h hC
    obtain ⟨g1, g2⟩ := h
    exact ⟨_, _, _, g1.2, hlt, by omega, Nat.le_refl _, by omega, .inr ⟨rfl, e, k, g1.1, rfl, rfl, hC⟩⟩
  | ok t r2 =>
    rw [hq] at h hC
    obtain ⟨g1, g2, a', g3, g4, g5, g6, g7⟩ := h
    refine ⟨a', 0, 0, g6, by omega, by omega, g4, by omega, .inl ⟨rfl, rfl, acc ++ [t], F, okTs_snoc hok g2, by simp [hls, g1], ?_, by rw [g5]; exact hC⟩⟩
    simp only [need] at hF ⊢
    omega
theorem midK_end (hm : midK s a0 C ls a c q) (p : par w g s a c q) (he : rst s a = [] ∨ ∃ ch r, rst s a = ch :: r ∧ (ch = 124 ∨ ch = 41)) : res s g 2 a0 C (joinN 3 ls) w := by
  obtain ⟨h2, h3, h4, h5⟩ := hm
  have hl := join_len 3 ls
  have hb : (joinN 3 ls).length + 1 ≤ 2 * (a - a0) + 2 := by
    split at hl
    · omega
    · omega
  rcases h5 with ⟨rfl, rfl, acc, F, hok, rfl, hF, hC⟩ | ⟨rfl, e, k, h6, rfl, rfl, rfl⟩
  · obtain ⟨F, rfl⟩ : ∃ f, F = f + 1 := ⟨F - 1, by simp only [need] at hF; omega⟩
    have hC2 : C = .ok (if acc = [] then .emp else many .cat acc) (rst s a) := by
      rw [hC]
      rcases he with hr | ⟨ch, r, hr, h⟩
      · rw [hr, prs]
      · rw [hr, prs, if_pos h]
    rw [hC2]
    exact ⟨join_cat acc, many_cat hok, a, h2, h3, rfl, p, hb⟩
  · exact ⟨⟨h6, p⟩, hb⟩
end
set_option maxHeartbeats 4000000 in
set_option maxRecDepth 100000 in
theorem cat_of {n : Nat} (HC : Hid (reads 51 .rep 0 n)) : reads 33 (.cat []) 2 n := by
  intro s g a0 F w hs ha hn _ hF H0
  have HG := Lib.hid H0.lt
  obtain ⟨C, hC⟩ : ∃ C, C = prs F (.cat []) (rst s a0) := ⟨_, rfl⟩
  have HM0 : Hid (midK s a0 C [] a0 0 0) := Lib.hid ⟨Nat.le_refl _, ha, by simp, .inl ⟨rfl, rfl, [], F, by unfold okTs; trivial, rfl, hF, hC⟩⟩
  rw [← hC]
  have HN := Lib.hid hn
  have HS := Lib.hid hs
  have HP0 := Lib.hid H0
  clear hC hF ha H0 hn hs
  go_enter Tryd.func33, Tryd.ntmps33
  go_wp2
  go_loopw [3] (fun s3 wr => ∃ (ls : List (List Nd)) (a : Nat) (c q : Int), Hid (rowsB wr w.heap.size s3 ls) ∧ Hid (midK s a0 C ls a c q) ∧ Hid (par wr g s a c q) ∧ Hid (Only (· = g) w wr)) (fun _ wr => meaW wr g s.size)
  case atStart => exact ⟨[], a0, 0, 0, Lib.hid (rowsB_nil _ _), HM0, HP0, Lib.hid (Only.refl _ _)⟩
  case round =>
    obtain ⟨ls, a, c, q, HR, HM, HP, HO⟩ := hrel
    have HMM := Lib.hid (meaW_par HP.out s.size)
    have has : a ≤ s.size := HM.out.2.1
    have HLS : Hid (ls.flatten.length ≤ 999000 ∧ ls.length ≤ 999000) := Lib.hid (by have := HM.out.2.2.1; have := HS.out; omega)
    obtain ⟨A, cap, hv⟩ := HR.out.form
    subst hv
    have c0 := HP.out.c0
    have c1 := HP.out.c1
    have HX : Hid (∀ n, Calls Tryd.prog 50 #[.pointer (some ⟨g, 0, none⟩), .string ⟨#[124, 41]⟩] (wr.drewN n) fun e w' => e = .returned (.bool (nxQ ⟨#[124, 41]⟩ (rst s a))) ∧ ∃ m, w' = (wr.drewN n).drewN m) := Lib.hid (fun n => next_any _ (Lib.hid (HP.out.draws n)))
    have HJ : Hid (∀ u, rowsB u w.heap.size (.slice A ls.length cap) ls → Calls Tryd.prog 35 #[.int .i64 3, .slice A ls.length cap] u fun e w' => ∃ v', e = .returned v' ∧ slT w' v' (joinN 3 ls) ∧ Below u.heap.size u w') := Lib.hid (fun u hu => join_any (by unfold in64; omega) HLS.out.1 HLS.out.2 (Lib.hid hu.rows))
    rcases Nat.lt_or_ge a s.size with hlt | hge
    · obtain ⟨ch, hch, hr, _⟩ := rst_cons hlt
      have hd : (a : Int) < (s.size : Int) := by omega
      by_cases h93 : ch = 124 ∨ ch = 41
      · have hx : nxQ ⟨#[124, 41]⟩ (rst s a) = true := nx_yes in_cat hr h93
        rw [hx] at HX
        have HE : Hid (rst s a = [] ∨ ∃ ch r, rst s a = ch :: r ∧ (ch = 124 ∨ ch = 41)) := Lib.hid (.inr ⟨ch, _, hr, h93⟩)
        clear hx hlt hr hch h93 has
        obtain ⟨n0, hn0⟩ : ∃ n0, n0 = ls.length := ⟨_, rfl⟩
        rw [← hn0]
        rw [← hn0] at HR HJ
        clear hn0
        go_wp2
        go_quiet (first | (go_at_call 50; exact Calls.quiet_of (HX.out _)))
        simp only [Exit.then]
        clear c0 c1
        obtain ⟨w4, hw4⟩ : ∃ w4, w4 = wr.drewN nq := ⟨_, rfl⟩
        have HP4 : Hid (par w4 g s a c q) := Lib.hid (by rw [hw4]; exact HP.out.draws _)
        have HO4 : Hid (Only (· = g) w w4) := Lib.hid (by rw [hw4]; exact HO.out.draws _)
        have HR4 : Hid (rowsB w4 w.heap.size (.slice A n0 cap) ls) := Lib.hid (by rw [hw4]; exact HR.out.below (below_draws _ _))
        try rw [← hw4]
        clear hw4
        go_wp2_with (first | (go_at_call 35; refine (HJ.out _ HR4.out).mono ?_; rintro e w5 ⟨v5, rfl, ⟨A5, k5, rfl, hx⟩, k⟩; have HS5 : Hid (slT w5 (.slice A5 (joinN 3 ls).length k5) (joinN 3 ls)) := Lib.hid ⟨A5, k5, rfl, hx⟩; have HK5 := Lib.hid k; clear hx k))
        go_ret
        exact ⟨_, _, rfl, HS5.out, midK_end HM.out (HP4.out.below HK5.out) HE.out, HO4.out.trans (Only.of_below HK5.out)⟩
      · have hx : nxQ ⟨#[124, 41]⟩ (rst s a) = false := nx_no in_cat hr h93
        rw [hx] at HX
        obtain ⟨acc, F, hok, hls, hF, hCC, rfl, rfl⟩ : ∃ acc F, okTs acc ∧ ls = acc.map enc ∧ need (.cat acc) (s.size - a) ≤ F + 1 ∧ C = prs (F + 1) (.cat acc) (rst s a) ∧ c = 0 ∧ q = 0 := by
          rcases HM.out.2.2.2 with ⟨h1, h2, acc, F, h3, h4, h5, h6⟩ | ⟨h, _⟩
          · obtain ⟨F, rfl⟩ : ∃ f, F = f + 1 := ⟨F - 1, by simp only [need] at h5; omega⟩
            exact ⟨acc, F, h3, h4, h5, h6, h1, h2⟩
          · omega
        have HC2 : Hid (∀ u, par u g s a 0 0 → Calls Tryd.prog 51 #[.pointer (some ⟨g, 0, none⟩)] u fun e w' => ∃ v l, e = .returned v ∧ slT w' v l ∧ (∃ a' c' q', par w' g s a' c' q' ∧ a < a' ∧ midK s a0 C (ls ++ [l]) a' c' q') ∧ Only (· = g) u w') := Lib.hid (fun u hu => by
          have hm := HM.out
          have h0 := HM.out.1
          refine (HC.out s g a F u HS.out has (by have := HN.out; omega) (fun _ => ⟨ch, _, hr, fun h => h93 (.inl h), fun h => h93 (.inr h)⟩) (by simp only [need] at hF ⊢; omega) hu).mono ?_
          rintro e w' ⟨v, l, h1, h2, h3, h4⟩
          exact ⟨v, l, h1, h2, midK_next hm hr h93 hok hls hF hCC h3, h4⟩)
        have HLT := Lib.hid hlt
        clear hx hlt hr hch h93 has hok hls hF hCC
        obtain ⟨n0, hn0⟩ : ∃ n0, n0 = ls.length := ⟨_, rfl⟩
        rw [← hn0]
        rw [← hn0] at HR HJ
        have HN0 := Lib.hid hn0
        clear hn0
        go_wp2
        go_quiet (first | (go_at_call 50; exact Calls.quiet_of (HX.out _)))
        simp only [Exit.then]
        clear c0 c1
        obtain ⟨w4, hw4⟩ : ∃ w4, w4 = wr.drewN nq := ⟨_, rfl⟩
        have HP4 : Hid (par w4 g s a 0 0) := Lib.hid (by rw [hw4]; exact HP.out.draws _)
        have HO4 : Hid (Only (· = g) w w4) := Lib.hid (by rw [hw4]; exact HO.out.draws _)
        have HR4 : Hid (rowsB w4 w.heap.size (.slice A n0 cap) ls) := Lib.hid (by rw [hw4]; exact HR.out.below (below_draws _ _))
        try rw [← hw4]
        clear hw4
        go_wp2_with (first | (go_at_call 51; refine (HC2.out _ HP4.out).mono ?_; rintro e w5 ⟨v5, l5, rfl, ⟨A5, k5, rfl, hx⟩, ⟨a5, c5, q5, p5, hlt5, hm⟩, o5⟩; have HS5 : Hid (slT w5 (.slice A5 l5.length k5) l5) := Lib.hid ⟨A5, k5, rfl, hx⟩; have HP5 := Lib.hid p5; have HM5 := Lib.hid hm; have HL5 := Lib.hid hlt5; have HO5 := Lib.hid (HO4.out.trans o5); have HR5 := Lib.hid (HR4.out.apart HP4.out HG.out o5); clear hx p5 hm o5 hlt5) | (at_builtin; refine wpList_rowsB rfl _ _ rfl (base := w.heap.size) HO5.out.size (by rfl) HR5.out (.slice A5 l5.length k5) HS5.out rfl (by rfl) (by have := HLS.out; omega) ?_; intro v6 w6 h6 o6; have HR6 := Lib.hid h6; have HO6 := Lib.hid o6; clear h6 o6))
        have HOB : Hid (∀ i, (Value.slice A n0 cap).ownBlock = some i → w.heap.size ≤ i) := Lib.hid (fun i hi => by obtain ⟨L, h1, _⟩ := HR5.out; exact (h1.lo i hi).1)
        have HP6 : Hid (par w6 g s a5 c5 q5) := Lib.hid (Blk.only HP5.out HO6.out (fun h => by have := HOB.out _ h; have := HG.out; omega))
        have HO7 : Hid (Only (· = g) w w6) := Lib.hid (HO5.out.then HO6.out (fun i hi hl => by have := HOB.out _ hi; omega))
        go_roundw
        case rel => exact ⟨_, a5, c5, q5, HR6, HM5, HP6, HO7⟩
        case measure => rw [HMM.out, meaW_par HP6.out]; have := HL5.out; have := HLT.out; omega
    · have hd : (a < s.size) = False := eq_false (by omega)
      have HE : Hid (rst s a = [] ∨ ∃ ch r, rst s a = ch :: r ∧ (ch = 124 ∨ ch = 41)) := Lib.hid (.inl (rst_nil hge))
      clear hge HX has
      obtain ⟨n0, hn0⟩ : ∃ n0, n0 = ls.length := ⟨_, rfl⟩
      rw [← hn0]
      rw [← hn0] at HR HJ
      clear hn0
      go_wp2
      go_quiet (fail)
      simp only [Exit.then]
      clear c0 c1
      obtain ⟨w4, hw4⟩ : ∃ w4, w4 = wr.drewN nq := ⟨_, rfl⟩
      have HP4 : Hid (par w4 g s a c q) := Lib.hid (by rw [hw4]; exact HP.out.draws _)
      have HO4 : Hid (Only (· = g) w w4) := Lib.hid (by rw [hw4]; exact HO.out.draws _)
      have HR4 : Hid (rowsB w4 w.heap.size (.slice A n0 cap) ls) := Lib.hid (by rw [hw4]; exact HR.out.below (below_draws _ _))
      try rw [← hw4]
      clear hw4
      go_wp2_with (first | (go_at_call 35; refine (HJ.out _ HR4.out).mono ?_; rintro e w5 ⟨v5, rfl, ⟨A5, k5, rfl, hx⟩, k⟩; have HS5 : Hid (slT w5 (.slice A5 (joinN 3 ls).length k5) (joinN 3 ls)) := Lib.hid ⟨A5, k5, rfl, hx⟩; have HK5 := Lib.hid k; clear hx k))
      go_ret
      exact ⟨_, _, rfl, HS5.out, midK_end HM.out (HP4.out.below HK5.out) HE.out, HO4.out.trans (Only.of_below HK5.out)⟩
end Go.Proofs.YtabcehifdomolaaDoor.Eca
namespace Go.Proofs.YtabcehifdomolaaDoor.Erp
open Go.RowKit Go.PlainAid Go.Proofs.YtabcehifdomolaaDoor.Vm Go.Proofs.YtabcehifdomolaaDoor.Vo Go.Proofs.YtabcehifdomolaaDoor.Bw Go.Proofs.YtabcehifdomolaaDoor.Na Go.Proofs.YtabcehifdomolaaDoor.Ko Go.Proofs.YtabcehifdomolaaDoor.Tm Go.Proofs.YtabcehifdomolaaDoor.Ts Go.Proofs.YtabcehifdomolaaDoor.Ta Go.Proofs.YtabcehifdomolaaDoor.Tb Go.Proofs.YtabcehifdomolaaDoor.Td Go.Proofs.YtabcehifdomolaaDoor.Tf Go.Proofs.YtabcehifdomolaaDoor.Rm Go.Proofs.YtabcehifdomolaaDoor.Rs Go.Proofs.YtabcehifdomolaaDoor.Rv Go.Proofs.YtabcehifdomolaaDoor.Ru Go.Proofs.YtabcehifdomolaaDoor.Ra Go.Proofs.YtabcehifdomolaaDoor.Ed Go.Proofs.YtabcehifdomolaaDoor.En Go.Proofs.YtabcehifdomolaaDoor.Ep Go.Proofs.YtabcehifdomolaaDoor.Er Go.Proofs.YtabcehifdomolaaDoor.Eo Go.Proofs.YtabcehifdomolaaDoor.Es Go.Proofs.YtabcehifdomolaaDoor.Eu Go.Proofs.YtabcehifdomolaaDoor.Epa

/-- Where rep stands: C is what comes of it in all. -/
def midR (s : ByteArray) (a0 : Nat) (C : Out T) (l : List Nd) (a : Nat) (c q : Int) : Prop :=
  a0 ≤ a ∧ a ≤ s.size ∧ l.length + 1 ≤ 2 * (a - a0) ∧
  ((c = 0 ∧ q = 0 ∧ ∃ t F, okT t ∧ l = enc t ∧ need (.reps t) (s.size - a) ≤ F ∧ C = prs F (.reps t) (rst s a)) ∨ (a = s.size ∧ ∃ e k : Nat, e ≠ 0 ∧ c = (e : Int) ∧ q = ((s.size - k : Nat) : Int) ∧ C = .err e k))
section
variable {s : ByteArray} {g a0 a : Nat} {C : Out T} {l : List Nd} {c q : Int} {w : World}
theorem midR_start {f : Nat} (hF : need .rep (s.size - a0) ≤ f + 1) (hC : C = prs (f + 1) .rep (rst s a0)) (ha : a0 ≤ s.size) (h : res s g 0 a0 (prs f .atom (rst s a0)) l w) : ∃ a c q, par w g s a c q ∧ midR s a0 C l a c q := by
  rw [prs] at hC
  cases hq : prs f .atom (rst s a0) with
  | err e k =>
    rw [hq] at h hC
    obtain ⟨h1, h2⟩ := h
    exact ⟨_, _, _, h1.2, ha, Nat.le_refl _, h2, .inr ⟨rfl, e, k, h1.1, rfl, rfl, hC⟩⟩
  | ok t r =>
    rw [hq] at h hC
    obtain ⟨h1, h2, a', h3, h4, h5, h6, h7⟩ := h
    refine ⟨a', 0, 0, h6, h3, h4, h7, .inl ⟨rfl, rfl, t, f, h2, h1, ?_, by rw [h5]; exact hC⟩⟩
    simp only [need] at hF ⊢
    omega
theorem midR_step {F ch : Nat} {t t' : T} {x : Nd} {r : List Nat} (hm : midR s a0 C l a c q) (hr : rst s a = ch :: r) (hr1 : rst s (a + 1) = r) (hok : okT t') (hl : l = enc t) (he : enc t' = x :: enc t) (hF : need (.reps t) (s.size - a) ≤ F + 1) (hC : C = prs (F + 1) (.reps t) (rst s a)) (hp : prs (F + 1) (.reps t) (ch :: r) = prs F (.reps t') r) : midR s a0 C (x :: l) (a + 1) 0 0 := by
  obtain ⟨h2, h3, h4, _⟩ := hm
  have hlt : a < s.size := by have := rst_len s a; rw [hr, List.length_cons] at this; omega
  refine ⟨by omega, by omega, by rw [List.length_cons]; omega, .inl ⟨rfl, rfl, t', F, hok, by rw [he, hl], ?_, by rw [hC, hr, hp, hr1]⟩⟩
  simp only [need] at hF ⊢
  omega
theorem midR_rep {F : Nat} {t : T} {r : List Nat} {lo hi : Int} (hm : midR s a0 C l a c q) (hr : rst s a = 123 :: r) (hok : okT t) (hl : l = enc t) (hF : need (.reps t) (s.size - a) ≤ F + 1) (hC : C = prs (F + 1) (.reps t) (rst s a)) (h : bouA s g (r.length + 1) r lo hi w) : ∃ a' c' q', par w g s a' c' q' ∧ a < a' ∧ midR s a0 C (⟨8, 1, zero, lo, hi⟩ :: l) a' c' q' := by
  obtain ⟨h2, h3, h4, _⟩ := hm
  have hlen := rst_len s a
  rw [hr, List.length_cons] at hlen
  have hlt : a < s.size := by omega
  rw [hr, prs] at hC
  simp only [show ¬ (123 = 42) by decide, show ¬ (123 = 43) by decide, show ¬ (123 = 63) by decide, if_false, if_true] at hC
  obtain ⟨_, _, h⟩ := h
  have hall := tim_all (r.length + 1) r
  cases hq : timP (r.length + 1) r with
  | err e k =>
    rw [hq] at h hC
    have hd : dead w g s e k := h
    exact ⟨_, _, _, hd.2, hlt, by omega, Nat.le_refl _, by rw [List.length_cons]; omega, .inr ⟨rfl, e, k, hd.1, rfl, rfl, hC⟩⟩
  | ok x r2 =>
    rw [hq] at h hC hall
    obtain ⟨x1, x2⟩ := x
    obtain ⟨rfl, rfl, a', g1, g2, g3⟩ := (show lo = (x1 : Int) ∧ hi = x2 ∧ live w g s r2 from h)
    have hr2 : r2.length < r.length := hall.2
    have hl2 := rst_len s a'
    rw [g3] at hl2
    refine ⟨a', 0, 0, g2, by omega, by omega, g1, by rw [List.length_cons]; omega, .inl ⟨rfl, rfl, .rep x1 hi t, F, ?_, ?_, ?_, by rw [g3]; exact hC⟩⟩
    · unfold okT
      exact ⟨hall.1.1, hall.1.2, hok⟩
    · rw [enc, hl]
    · simp only [need] at hF ⊢
      omega
theorem midR_end (hm : midR s a0 C l a c q) (p : par w g s a c q) (he : rst s a = [] ∨ ∃ ch r, rst s a = ch :: r ∧ ch ≠ 42 ∧ ch ≠ 43 ∧ ch ≠ 63 ∧ ch ≠ 123) : res s g 0 a0 C l w := by
  obtain ⟨h2, h3, h4, h5⟩ := hm
  rcases h5 with ⟨rfl, rfl, t, F, hok, rfl, hF, hC⟩ | ⟨rfl, e, k, h6, rfl, rfl, rfl⟩
  · obtain ⟨F, rfl⟩ : ∃ f, F = f + 1 := ⟨F - 1, by simp only [need] at hF; omega⟩
    have hC2 : C = .ok t (rst s a) := by
      rw [hC]
      rcases he with hr | ⟨ch, r, hr, n1, n2, n3, n4⟩
      · rw [hr, prs]
      · rw [hr, prs, if_neg n1, if_neg n2, if_neg n3, if_neg n4]
    rw [hC2]
    exact ⟨rfl, hok, a, h2, h3, rfl, p, h4⟩
  · exact ⟨⟨h6, p⟩, h4⟩
end
/-- above, of one child. -/
theorem above_one {x : Nd} (hx : ndOk x) {l : List Nd} (hl : l.length ≤ 999000) {v : Value} {u : World} (h : slT u v l) :
    Calls Tryd.prog 52 #[.agg (cN x).toArray, .slice (some ⟨u.heap.size, 0, none⟩) 1 1] (u.alloc (.cells #[v] 22)) fun e w' => ∃ v', e = .returned v' ∧ slT w' v' (wN x 1 :: l) ∧ Below u.heap.size u w' := by
  refine (above_any hx (ls := [l]) (by simpa using hl) (by simp) (Lib.hid (rowsB_lit (Nat.le_refl _) h).rows)).mono ?_
  rintro e w' ⟨v', h1, h2, h3⟩
  refine ⟨v', h1, ?_, (below_alloc u _).trans (h3.mono (by rw [size_alloc]; omega))⟩
  simpa using h2
set_option maxHeartbeats 4000000 in
set_option maxRecDepth 100000 in
theorem rep_of {n : Nat} (HC : Hid (reads 67 .atom 0 n)) : reads 51 .rep 0 n := by
  intro s g a0 F w hs ha hn hb hF H0
  obtain ⟨f, rfl⟩ : ∃ f, F = f + 1 := ⟨F - 1, by simp only [need] at hF; omega⟩
  have HG := Lib.hid H0.lt
  have hs1 : s.size ≤ 1000000 := by omega
  obtain ⟨C, hC⟩ : ∃ C, C = prs (f + 1) .rep (rst s a0) := ⟨_, rfl⟩
  have H1 : Hid (Calls Tryd.prog 67 #[.pointer (some ⟨g, 0, none⟩)] w fun e w' => ∃ v l, e = .returned v ∧ slT w' v l ∧ (∃ a c q, par w' g s a c q ∧ midR s a0 C l a c q) ∧ Only (· = g) w w') := Lib.hid ((HC.out s g a0 f w hs ha hn hb (by simp only [need] at hF ⊢; omega) H0).mono fun e w' ⟨v, l, h1, h2, h3, h4⟩ => ⟨v, l, h1, h2, midR_start hF hC ha h3, h4⟩)
  rw [← hC]
  have HS := Lib.hid hs
  clear hC hF ha H0 hn hs hb
  go_enter Tryd.func51, Tryd.ntmps51
  go_wp2_with (first | (go_at_call 67; refine H1.out.mono ?_; rintro e w1 ⟨v1, l1, rfl, ⟨A1, k1, rfl, hx⟩, ⟨a1, c1, q1, p1, hm⟩, o1⟩; have HS1 : Hid (slT w1 (.slice A1 l1.length k1) l1) := Lib.hid ⟨A1, k1, rfl, hx⟩; have HP1 := Lib.hid p1; have HM1 := Lib.hid hm; have HO1 := Lib.hid o1; clear hx p1 hm o1))
  clear H1
  go_loopw [3] (fun s3 wr => ∃ (l : List Nd) (a : Nat) (c q : Int), Hid (slT wr s3 l) ∧ Hid (midR s a0 C l a c q) ∧ Hid (par wr g s a c q) ∧ Hid (Only (· = g) w wr)) (fun _ wr => meaW wr g s.size)
  case atStart => exact ⟨l1, a1, c1, q1, HS1, HM1, HP1, HO1⟩
  case round =>
    obtain ⟨l, a, c, q, HR, HM, HP, HO⟩ := hrel
    have HMM := Lib.hid (meaW_par HP.out s.size)
    have has : a ≤ s.size := HM.out.2.1
    have HLS : Hid (l.length ≤ 999000) := Lib.hid (by have := HM.out.2.2.1; have := HS.out; omega)
    obtain ⟨A, cap, hv, hvr⟩ := HR.out
    clear hvr
    subst hv
    have HTN : Hid (∀ (m : ByteArray), nxQ m (rst s a) = false → ∀ u, par u g s a c q → Calls Tryd.prog 34 #[.pointer (some ⟨g, 0, none⟩), .string m] u fun e w' => e = .returned (.bool false) ∧ par w' g s a c q ∧ Only (· = g) u w') := Lib.hid (fun m hm u hu => take_no hs1 has hm hu)
    have HTY : Hid (∀ (m : ByteArray), nxQ m (rst s a) = true → ∀ u, par u g s a c q → Calls Tryd.prog 34 #[.pointer (some ⟨g, 0, none⟩), .string m] u fun e w' => e = .returned (.bool true) ∧ par w' g s (a + 1) c q ∧ Only (· = g) u w') := Lib.hid (fun m hm u hu => take_yes hs1 has hm hu)
    have HNX : Hid (∀ (m : ByteArray) (b : Bool), nxQ m (rst s a) = b → ∀ u, par u g s a c q → Calls Tryd.prog 50 #[.pointer (some ⟨g, 0, none⟩), .string m] u fun e w' => e = .returned (.bool b) ∧ par w' g s a c q ∧ Only (· = g) u w') := Lib.hid (fun m b hm u hu => next_is hm hu)
    rcases Nat.lt_or_ge a s.size with hlt | hge
    · obtain ⟨ch, hch, hr, _⟩ := rst_cons hlt
      by_cases h42 : ch = 42
      · subst h42
        have HX42 : Hid (nxQ ⟨#[42]⟩ (rst s a) = true) := Lib.hid (nx_yes in_42 hr rfl)
        obtain ⟨rfl, rfl, HMX⟩ : c = 0 ∧ q = 0 ∧ Hid (midR s a0 C (⟨5, 1, zero, 0, 0⟩ :: l) (a + 1) 0 0) := by
          rcases HM.out.2.2.2 with ⟨h1, h2, t, F, h3, h4, h5, h6⟩ | ⟨h, _⟩
          · obtain ⟨F, rfl⟩ : ∃ f, F = f + 1 := ⟨F - 1, by simp only [need] at h5; omega⟩
            exact ⟨h1, h2, Lib.hid (midR_step HM.out hr rfl (t' := .star t) (by unfold okT; exact h3) h4 (by rw [enc]) h5 h6 (by rw [prs]; simp))⟩
          · omega
        have HAB : Hid (∀ u, slT u (.slice A l.length cap) l → Calls Tryd.prog 52 #[.agg #[.int .i64 5, .int .i64 0, .int .u64 0, .int .u64 0, .int .u64 0, .int .u64 0, .int .i64 0, .int .i64 0], .slice (some ⟨u.heap.size, 0, none⟩) 1 1] (u.alloc (.cells #[.slice A l.length cap] 22)) fun e w' => ∃ v', e = .returned v' ∧ slT w' v' (⟨5, 1, zero, 0, 0⟩ :: l) ∧ Below u.heap.size u w') := Lib.hid (fun u hu => above_one (x := ⟨5, 0, zero, 0, 0⟩) (okS zero_set (by unfold in64; omega)) HLS.out hu)
        have HLT := Lib.hid hlt
        clear hr hch hlt has
        obtain ⟨n0, hn0⟩ : ∃ n0, n0 = l.length := ⟨_, rfl⟩
        rw [← hn0]
        rw [← hn0] at HR HAB
        clear hn0
        go_wp2_with (first | (go_at_call 34; with_reducible refine (HTY.out _ HX42.out _ HP.out).mono ?_; rintro e w10 ⟨rfl, p, o⟩; have HP10 := Lib.hid p; have HO10 := Lib.hid (HO.out.trans o); have HR10 := Lib.hid (slT.apart HR.out HP.out o); clear p o) | (go_at_call 52; refine (HAB.out _ HR10.out).mono ?_; rintro e w9 ⟨v9, rfl, h9, k9⟩; have HS9 := Lib.hid h9; have HP9 := Lib.hid (HP10.out.below k9); have HO9 := Lib.hid (HO10.out.trans (Only.of_below k9)); clear h9 k9))
        go_roundw
        case rel => exact ⟨_, a + 1, 0, 0, HS9, HMX, HP9, HO9⟩
        case measure => rw [HMM.out, meaW_par HP9.out]; have := HLT.out; omega
      by_cases h43 : ch = 43
      · subst h43
        have HX42 : Hid (nxQ ⟨#[42]⟩ (rst s a) = false) := Lib.hid (nx_no in_42 hr (by decide))
        have HX43 : Hid (nxQ ⟨#[43]⟩ (rst s a) = true) := Lib.hid (nx_yes in_43 hr rfl)
        obtain ⟨rfl, rfl, HMX⟩ : c = 0 ∧ q = 0 ∧ Hid (midR s a0 C (⟨6, 1, zero, 0, 0⟩ :: l) (a + 1) 0 0) := by
          rcases HM.out.2.2.2 with ⟨h1, h2, t, F, h3, h4, h5, h6⟩ | ⟨h, _⟩
          · obtain ⟨F, rfl⟩ : ∃ f, F = f + 1 := ⟨F - 1, by simp only [need] at h5; omega⟩
            exact ⟨h1, h2, Lib.hid (midR_step HM.out hr rfl (t' := .plus t) (by unfold okT; exact h3) h4 (by rw [enc]) h5 h6 (by rw [prs]; simp))⟩
          · omega
        have HAB : Hid (∀ u, slT u (.slice A l.length cap) l → Calls Tryd.prog 52 #[.agg #[.int .i64 6, .int .i64 0, .int .u64 0, .int .u64 0, .int .u64 0, .int .u64 0, .int .i64 0, .int .i64 0], .slice (some ⟨u.heap.size, 0, none⟩) 1 1] (u.alloc (.cells #[.slice A l.length cap] 22)) fun e w' => ∃ v', e = .returned v' ∧ slT w' v' (⟨6, 1, zero, 0, 0⟩ :: l) ∧ Below u.heap.size u w') := Lib.hid (fun u hu => above_one (x := ⟨6, 0, zero, 0, 0⟩) (okS zero_set (by unfold in64; omega)) HLS.out hu)
        have HLT := Lib.hid hlt
        clear hr hch hlt has
        obtain ⟨n0, hn0⟩ : ∃ n0, n0 = l.length := ⟨_, rfl⟩
        rw [← hn0]
        rw [← hn0] at HR HAB
        clear hn0
        go_wp2_with (first | (go_at_call 34; with_reducible refine (HTN.out _ HX42.out _ HP.out).mono ?_; rintro e w10 ⟨rfl, p, o⟩; have HP10 := Lib.hid p; have HO10 := Lib.hid (HO.out.trans o); have HR10 := Lib.hid (slT.apart HR.out HP.out o); clear p o) | (go_at_call 34; with_reducible refine (HTY.out _ HX43.out _ HP10.out).mono ?_; rintro e w20 ⟨rfl, p, o⟩; have HP20 := Lib.hid p; have HO20 := Lib.hid (HO10.out.trans o); have HR20 := Lib.hid (slT.apart HR10.out HP10.out o); clear p o) | (go_at_call 52; refine (HAB.out _ HR20.out).mono ?_; rintro e w9 ⟨v9, rfl, h9, k9⟩; have HS9 := Lib.hid h9; have HP9 := Lib.hid (HP20.out.below k9); have HO9 := Lib.hid (HO20.out.trans (Only.of_below k9)); clear h9 k9))
        go_roundw
        case rel => exact ⟨_, a + 1, 0, 0, HS9, HMX, HP9, HO9⟩
        case measure => rw [HMM.out, meaW_par HP9.out]; have := HLT.out; omega
      by_cases h63 : ch = 63
      · subst h63
        have HX42 : Hid (nxQ ⟨#[42]⟩ (rst s a) = false) := Lib.hid (nx_no in_42 hr (by decide))
        have HX43 : Hid (nxQ ⟨#[43]⟩ (rst s a) = false) := Lib.hid (nx_no in_43 hr (by decide))
        have HX63 : Hid (nxQ ⟨#[63]⟩ (rst s a) = true) := Lib.hid (nx_yes in_63 hr rfl)
        obtain ⟨rfl, rfl, HMX⟩ : c = 0 ∧ q = 0 ∧ Hid (midR s a0 C (⟨7, 1, zero, 0, 0⟩ :: l) (a + 1) 0 0) := by
          rcases HM.out.2.2.2 with ⟨h1, h2, t, F, h3, h4, h5, h6⟩ | ⟨h, _⟩
          · obtain ⟨F, rfl⟩ : ∃ f, F = f + 1 := ⟨F - 1, by simp only [need] at h5; omega⟩
            exact ⟨h1, h2, Lib.hid (midR_step HM.out hr rfl (t' := .opt t) (by unfold okT; exact h3) h4 (by rw [enc]) h5 h6 (by rw [prs]; simp))⟩
          · omega
        have HAB : Hid (∀ u, slT u (.slice A l.length cap) l → Calls Tryd.prog 52 #[.agg #[.int .i64 7, .int .i64 0, .int .u64 0, .int .u64 0, .int .u64 0, .int .u64 0, .int .i64 0, .int .i64 0], .slice (some ⟨u.heap.size, 0, none⟩) 1 1] (u.alloc (.cells #[.slice A l.length cap] 22)) fun e w' => ∃ v', e = .returned v' ∧ slT w' v' (⟨7, 1, zero, 0, 0⟩ :: l) ∧ Below u.heap.size u w') := Lib.hid (fun u hu => above_one (x := ⟨7, 0, zero, 0, 0⟩) (okS zero_set (by unfold in64; omega)) HLS.out hu)
        have HLT := Lib.hid hlt
        clear hr hch hlt has
        obtain ⟨n0, hn0⟩ : ∃ n0, n0 = l.length := ⟨_, rfl⟩
        rw [← hn0]
        rw [← hn0] at HR HAB
        clear hn0
        go_wp2_with (first | (go_at_call 34; with_reducible refine (HTN.out _ HX42.out _ HP.out).mono ?_; rintro e w10 ⟨rfl, p, o⟩; have HP10 := Lib.hid p; have HO10 := Lib.hid (HO.out.trans o); have HR10 := Lib.hid (slT.apart HR.out HP.out o); clear p o) | (go_at_call 34; with_reducible refine (HTN.out _ HX43.out _ HP10.out).mono ?_; rintro e w20 ⟨rfl, p, o⟩; have HP20 := Lib.hid p; have HO20 := Lib.hid (HO10.out.trans o); have HR20 := Lib.hid (slT.apart HR10.out HP10.out o); clear p o) | (go_at_call 34; with_reducible refine (HTY.out _ HX63.out _ HP20.out).mono ?_; rintro e w30 ⟨rfl, p, o⟩; have HP30 := Lib.hid p; have HO30 := Lib.hid (HO20.out.trans o); have HR30 := Lib.hid (slT.apart HR20.out HP20.out o); clear p o) | (go_at_call 52; refine (HAB.out _ HR30.out).mono ?_; rintro e w9 ⟨v9, rfl, h9, k9⟩; have HS9 := Lib.hid h9; have HP9 := Lib.hid (HP30.out.below k9); have HO9 := Lib.hid (HO30.out.trans (Only.of_below k9)); clear h9 k9))
        go_roundw
        case rel => exact ⟨_, a + 1, 0, 0, HS9, HMX, HP9, HO9⟩
        case measure => rw [HMM.out, meaW_par HP9.out]; have := HLT.out; omega
      by_cases h123 : ch = 123
      · subst h123
        have HX42 : Hid (nxQ ⟨#[42]⟩ (rst s a) = false) := Lib.hid (nx_no in_42 hr (by decide))
        have HX43 : Hid (nxQ ⟨#[43]⟩ (rst s a) = false) := Lib.hid (nx_no in_43 hr (by decide))
        have HX63 : Hid (nxQ ⟨#[63]⟩ (rst s a) = false) := Lib.hid (nx_no in_63 hr (by decide))
        have HX123 : Hid (nxQ ⟨#[123]⟩ (rst s a) = true) := Lib.hid (nx_yes in_123 hr rfl)
        obtain ⟨rfl, rfl, HMX⟩ : c = 0 ∧ q = 0 ∧ Hid (∀ (w' : World) (lo hi : Int), bouA s g ((rst s (a + 1)).length + 1) (rst s (a + 1)) lo hi w' → ∃ a' c' q', par w' g s a' c' q' ∧ a < a' ∧ midR s a0 C (⟨8, 1, zero, lo, hi⟩ :: l) a' c' q') := by
          rcases HM.out.2.2.2 with ⟨h1, h2, t, F, h3, h4, h5, h6⟩ | ⟨h, _⟩
          · obtain ⟨F, rfl⟩ : ∃ f, F = f + 1 := ⟨F - 1, by simp only [need] at h5; omega⟩
            exact ⟨h1, h2, Lib.hid (fun w' lo hi hb => midR_rep HM.out hr h3 h4 h5 h6 hb)⟩
          · omega
        have HBO : Hid (∀ u, par u g s a 0 0 → Calls Tryd.prog 68 #[.pointer (some ⟨g, 0, none⟩)] u fun e w' => ∃ lo hi : Int, e = .returned (.agg #[.int .i64 8, .int .i64 0, .int .u64 0, .int .u64 0, .int .u64 0, .int .u64 0, .int .i64 lo, .int .i64 hi]) ∧ (in64 lo ∧ in64 hi) ∧ (∃ a' c' q', par w' g s a' c' q' ∧ a < a' ∧ midR s a0 C (⟨8, 1, zero, lo, hi⟩ :: l) a' c' q') ∧ Only (· = g) u w') := Lib.hid (fun u hu => (bounds_any hs1 hr (Lib.hid hu)).mono fun e w' ⟨lo, hi, h1, h2, h3⟩ => ⟨lo, hi, h1, ⟨h2.1, h2.2.1⟩, HMX.out w' lo hi h2, h3⟩)
        have HAB : Hid (∀ (lo hi : Int), in64 lo → in64 hi → ∀ u, slT u (.slice A l.length cap) l → Calls Tryd.prog 52 #[.agg #[.int .i64 8, .int .i64 0, .int .u64 0, .int .u64 0, .int .u64 0, .int .u64 0, .int .i64 lo, .int .i64 hi], .slice (some ⟨u.heap.size, 0, none⟩) 1 1] (u.alloc (.cells #[.slice A l.length cap] 22)) fun e w' => ∃ v', e = .returned v' ∧ slT w' v' (⟨8, 1, zero, lo, hi⟩ :: l) ∧ Below u.heap.size u w') := Lib.hid (fun lo hi h1 h2 u hu => above_one (x := ⟨8, 0, zero, lo, hi⟩) ⟨zero_set, show in64 8 by unfold in64; omega, in64_0, h1, h2⟩ HLS.out hu)
        have HLT := Lib.hid hlt
        clear hr hch hlt has
        obtain ⟨n0, hn0⟩ : ∃ n0, n0 = l.length := ⟨_, rfl⟩
        rw [← hn0]
        rw [← hn0] at HR HAB
        clear hn0
        go_wp2_with (first | (go_at_call 34; with_reducible refine (HTN.out _ HX42.out _ HP.out).mono ?_; rintro e w10 ⟨rfl, p, o⟩; have HP10 := Lib.hid p; have HO10 := Lib.hid (HO.out.trans o); have HR10 := Lib.hid (slT.apart HR.out HP.out o); clear p o) | (go_at_call 34; with_reducible refine (HTN.out _ HX43.out _ HP10.out).mono ?_; rintro e w20 ⟨rfl, p, o⟩; have HP20 := Lib.hid p; have HO20 := Lib.hid (HO10.out.trans o); have HR20 := Lib.hid (slT.apart HR10.out HP10.out o); clear p o) | (go_at_call 34; with_reducible refine (HTN.out _ HX63.out _ HP20.out).mono ?_; rintro e w30 ⟨rfl, p, o⟩; have HP30 := Lib.hid p; have HO30 := Lib.hid (HO20.out.trans o); have HR30 := Lib.hid (slT.apart HR20.out HP20.out o); clear p o) | (go_at_call 50; with_reducible refine (HNX.out _ true HX123.out _ HP30.out).mono ?_; rintro e w40 ⟨rfl, p, o⟩; have HP40 := Lib.hid p; have HO40 := Lib.hid (HO30.out.trans o); have HR40 := Lib.hid (slT.apart HR30.out HP30.out o); clear p o) | (go_at_call 68; refine (HBO.out _ HP40.out).mono ?_; rintro e w8 ⟨lo, hi, rfl, hi64, ⟨a8, c8, q8, p8, hl8, hm8⟩, o8⟩; have HI8 := Lib.hid hi64; have HP8 := Lib.hid p8; have HL8 := Lib.hid hl8; have HM8 := Lib.hid hm8; have HO8 := Lib.hid (HO40.out.trans o8); have HR8 := Lib.hid (slT.apart HR40.out HP40.out o8); clear hi64 p8 hl8 hm8 o8) | (go_at_call 52; refine (HAB.out lo hi HI8.out.1 HI8.out.2 _ HR8.out).mono ?_; rintro e w9 ⟨v9, rfl, h9, k9⟩; have HS9 := Lib.hid h9; have HP9 := Lib.hid (HP8.out.below k9); have HO9 := Lib.hid (HO8.out.trans (Only.of_below k9)); clear h9 k9))
        go_roundw
        case rel => exact ⟨_, a8, c8, q8, HS9, HM8, HP9, HO9⟩
        case measure => rw [HMM.out, meaW_par HP9.out]; have := HL8.out; have := HLT.out; omega
      have HX42 : Hid (nxQ ⟨#[42]⟩ (rst s a) = false) := Lib.hid (nx_no in_42 hr h42)
      have HX43 : Hid (nxQ ⟨#[43]⟩ (rst s a) = false) := Lib.hid (nx_no in_43 hr h43)
      have HX63 : Hid (nxQ ⟨#[63]⟩ (rst s a) = false) := Lib.hid (nx_no in_63 hr h63)
      have HX123 : Hid (nxQ ⟨#[123]⟩ (rst s a) = false) := Lib.hid (nx_no in_123 hr h123)
      have HE : Hid (rst s a = [] ∨ ∃ ch r, rst s a = ch :: r ∧ ch ≠ 42 ∧ ch ≠ 43 ∧ ch ≠ 63 ∧ ch ≠ 123) := Lib.hid (.inr ⟨ch, _, hr, h42, h43, h63, h123⟩)
      clear hr hch hlt has h42 h43 h63 h123
      obtain ⟨n0, hn0⟩ : ∃ n0, n0 = l.length := ⟨_, rfl⟩
      rw [← hn0]
      rw [← hn0] at HR
      have HN0 := Lib.hid hn0
      clear hn0
      go_wp2_with (first | (go_at_call 34; with_reducible refine (HTN.out _ HX42.out _ HP.out).mono ?_; rintro e w10 ⟨rfl, p, o⟩; have HP10 := Lib.hid p; have HO10 := Lib.hid (HO.out.trans o); have HR10 := Lib.hid (slT.apart HR.out HP.out o); clear p o) | (go_at_call 34; with_reducible refine (HTN.out _ HX43.out _ HP10.out).mono ?_; rintro e w20 ⟨rfl, p, o⟩; have HP20 := Lib.hid p; have HO20 := Lib.hid (HO10.out.trans o); have HR20 := Lib.hid (slT.apart HR10.out HP10.out o); clear p o) | (go_at_call 34; with_reducible refine (HTN.out _ HX63.out _ HP20.out).mono ?_; rintro e w30 ⟨rfl, p, o⟩; have HP30 := Lib.hid p; have HO30 := Lib.hid (HO20.out.trans o); have HR30 := Lib.hid (slT.apart HR20.out HP20.out o); clear p o) | (go_at_call 50; with_reducible refine (HNX.out _ false HX123.out _ HP30.out).mono ?_; rintro e w40 ⟨rfl, p, o⟩; have HP40 := Lib.hid p; have HO40 := Lib.hid (HO30.out.trans o); have HR40 := Lib.hid (slT.apart HR30.out HP30.out o); clear p o))
      go_ret
      exact ⟨_, l, rfl, by rw [HN0.out] at *; exact HR40.out, midR_end HM.out HP40.out HE.out, HO40.out⟩
    · have h0 : rst s a = [] := rst_nil hge
      have HX42 : Hid (nxQ ⟨#[42]⟩ (rst s a) = false) := Lib.hid (nx_end h0)
      have HX43 : Hid (nxQ ⟨#[43]⟩ (rst s a) = false) := Lib.hid (nx_end h0)
      have HX63 : Hid (nxQ ⟨#[63]⟩ (rst s a) = false) := Lib.hid (nx_end h0)
      have HX123 : Hid (nxQ ⟨#[123]⟩ (rst s a) = false) := Lib.hid (nx_end h0)
      have HE : Hid (rst s a = [] ∨ ∃ ch r, rst s a = ch :: r ∧ ch ≠ 42 ∧ ch ≠ 43 ∧ ch ≠ 63 ∧ ch ≠ 123) := Lib.hid (.inl h0)
      clear h0 hge has
      obtain ⟨n0, hn0⟩ : ∃ n0, n0 = l.length := ⟨_, rfl⟩
      rw [← hn0]
      rw [← hn0] at HR
      have HN0 := Lib.hid hn0
      clear hn0
      go_wp2_with (first | (go_at_call 34; with_reducible refine (HTN.out _ HX42.out _ HP.out).mono ?_; rintro e w10 ⟨rfl, p, o⟩; have HP10 := Lib.hid p; have HO10 := Lib.hid (HO.out.trans o); have HR10 := Lib.hid (slT.apart HR.out HP.out o); clear p o) | (go_at_call 34; with_reducible refine (HTN.out _ HX43.out _ HP10.out).mono ?_; rintro e w20 ⟨rfl, p, o⟩; have HP20 := Lib.hid p; have HO20 := Lib.hid (HO10.out.trans o); have HR20 := Lib.hid (slT.apart HR10.out HP10.out o); clear p o) | (go_at_call 34; with_reducible refine (HTN.out _ HX63.out _ HP20.out).mono ?_; rintro e w30 ⟨rfl, p, o⟩; have HP30 := Lib.hid p; have HO30 := Lib.hid (HO20.out.trans o); have HR30 := Lib.hid (slT.apart HR20.out HP20.out o); clear p o) | (go_at_call 50; with_reducible refine (HNX.out _ false HX123.out _ HP30.out).mono ?_; rintro e w40 ⟨rfl, p, o⟩; have HP40 := Lib.hid p; have HO40 := Lib.hid (HO30.out.trans o); have HR40 := Lib.hid (slT.apart HR30.out HP30.out o); clear p o))
      go_ret
      exact ⟨_, l, rfl, by rw [HN0.out] at *; exact HR40.out, midR_end HM.out HP40.out HE.out, HO40.out⟩
end Go.Proofs.YtabcehifdomolaaDoor.Erp
namespace Go.Proofs.YtabcehifdomolaaDoor.Eat
open Go.RowKit Go.PlainAid Go.Proofs.YtabcehifdomolaaDoor.Vm Go.Proofs.YtabcehifdomolaaDoor.Vo Go.Proofs.YtabcehifdomolaaDoor.Bw Go.Proofs.YtabcehifdomolaaDoor.Na Go.Proofs.YtabcehifdomolaaDoor.Ko Go.Proofs.YtabcehifdomolaaDoor.Tm Go.Proofs.YtabcehifdomolaaDoor.Ts Go.Proofs.YtabcehifdomolaaDoor.Ta Go.Proofs.YtabcehifdomolaaDoor.Tb Go.Proofs.YtabcehifdomolaaDoor.Td Go.Proofs.YtabcehifdomolaaDoor.Tf Go.Proofs.YtabcehifdomolaaDoor.Rm Go.Proofs.YtabcehifdomolaaDoor.Rs Go.Proofs.YtabcehifdomolaaDoor.Rv Go.Proofs.YtabcehifdomolaaDoor.Ru Go.Proofs.YtabcehifdomolaaDoor.Ra Go.Proofs.YtabcehifdomolaaDoor.Ed Go.Proofs.YtabcehifdomolaaDoor.En Go.Proofs.YtabcehifdomolaaDoor.Ep Go.Proofs.YtabcehifdomolaaDoor.Em Go.Proofs.YtabcehifdomolaaDoor.Ek Go.Proofs.YtabcehifdomolaaDoor.Er Go.Proofs.YtabcehifdomolaaDoor.Eo Go.Proofs.YtabcehifdomolaaDoor.Es Go.Proofs.YtabcehifdomolaaDoor.Et Go.Proofs.YtabcehifdomolaaDoor.Ex Go.Proofs.YtabcehifdomolaaDoor.Eu Go.Proofs.YtabcehifdomolaaDoor.Epa

theorem chrA_below {s : ByteArray} {g : Nat} {o : Out (List Nat × Option Nat)} {x : List Nat} {w w' : World} (h : chrA s g o x w) (k : Below w.heap.size w w') : chrA s g o x w' := by
  refine ⟨h.1, ?_⟩
  have h2 := h.2
  cases o with
  | err e k' => exact ⟨h2.1, h2.2.1, h2.2.2.below k⟩
  | ok x r =>
    obtain ⟨a, h3, h4, h5⟩ := h2.2.2
    exact ⟨h2.1, h2.2.1, a, h3, h4.below k, h5⟩
set_option maxHeartbeats 4000000 in
set_option maxRecDepth 100000 in
theorem atom_lit {s : ByteArray} {g a F : Nat} {c : Nat} (hn : c ≠ 40 ∧ c ≠ 91 ∧ c ≠ 92 ∧ c ≠ 46 ∧ c ≠ 93 ∧ c ≠ 123 ∧ c ≠ 125 ∧ c ≠ 42 ∧ c ≠ 43 ∧ c ≠ 63) (hn2 : c ≠ 124 ∧ c ≠ 41) {r : List Nat} (hs : s.size ≤ 512) (hr : rst s a = c :: r) {w : World} (H : Hid (par w g s a 0 0)) :
    Calls Tryd.prog 67 #[.pointer (some ⟨g, 0, none⟩)] w fun e w' => ∃ v l, e = .returned v ∧ slT w' v l ∧ res s g 0 a (prs (F + 1) .atom (rst s a)) l w' ∧ Only (· = g) w w' := by
  have hb := get_bt s
  obtain ⟨hal, hc, hbt, hr1⟩ := rst_next hr
  have hs1 : s.size ≤ 1000000 := by omega
  have hlen := rst_len s a
  rw [hr, List.length_cons] at hlen
  have HG := Lib.hid H.out.lt
  have hix : (a : Int) < (s.size : Int) := by omega
  have ha0 : (0 : Int) ≤ (a : Int) := by omega
  have ha1 : (a : Int) ≤ 1000000 := by omega
  have c0 := H.out.c0
  have c1 := H.out.c1
  obtain ⟨n40, n91, n92, n46, n93, n123, n125, n42, n43, n63⟩ := hn
  have HR : Hid (∀ w', par w' g s (a + 1) 0 0 → res s g 0 a (prs (F + 1) .atom (rst s a)) [⟨1, 0, one c, 0, 0⟩] w') := Lib.hid (fun w' hp => by
    have hsp : ¬ spcQ c := by unfold spcQ; simp; omega
    rw [hr]
    unfold prs
    simp only [if_neg n40, if_neg n91, if_neg n46, if_neg n92, if_neg hsp]
    exact ⟨by rw [enc], by unfold okT; exact one_ok c, a + 1, by omega, by omega, hr1, hp, by simp only [List.length_cons, List.length_nil]; omega⟩)
  have e40 : ((c : Int) == 40) = false := by simp; omega
  have e91 : ((c : Int) == 91) = false := by simp; omega
  have e92 : ((c : Int) == 92) = false := by simp; omega
  have e46 : ((c : Int) == 46) = false := by simp; omega
  have e93 : ((c : Int) == 93) = false := by simp; omega
  have e123 : ((c : Int) == 123) = false := by simp; omega
  have e125 : ((c : Int) == 125) = false := by simp; omega
  have e42 : ((c : Int) == 42) = false := by simp; omega
  have e43 : ((c : Int) == 43) = false := by simp; omega
  have e63 : ((c : Int) == 63) = false := by simp; omega
  clear n40 n91 n92 n46 n93 n123 n125 n42 n43 n63
  have HONE : Hid (∀ w, Calls Tryd.prog 76 #[.agg (sv (one c))] w fun e w' => ∃ v', e = .returned v' ∧ slT w' v' [⟨1, 0, one c, 0, 0⟩] ∧ Below w.heap.size w w') := Lib.hid (fun w => one_any (one_set c) w)
  have HRA : Hid (∀ w, Calls Tryd.prog 78 #[.int .u8 c, .int .u8 c] w fun e w' => e = .returned (.agg (sv (one c))) ∧ Below w.heap.size w w') := Lib.hid (fun w => by have := Range_any hc hc w; rw [frm_one hc] at this; exact this)
  clear hr hr1 hlen hal hn2 hc
  go_enter Tryd.func67, Tryd.ntmps67
  go_wp2
  go_quiet (fail)
  simp only [Exit.then]
  clear c0 c1
  obtain ⟨w1, hw1⟩ : ∃ w1, w1 = w.drewN nq := ⟨_, rfl⟩
  have HP1 : Hid (par w1 g s a 0 0) := Lib.hid (by rw [hw1]; exact H.out.draws _)
  have HO1 : Hid (Only (· = g) w w1) := Lib.hid (by rw [hw1]; exact (Only.refl _ w).draws _)
  try rw [← hw1]
  clear hw1
  have d1 := HP1.out.c1
  have f1 := HP1.out.frozen 1
  have HP2 := Lib.hid HP1.out.step
  have HO2 : Hid (Only (· = g) w (w1.setCell ⟨g, 1, none⟩ (.int .i64 ((a : Int) + 1)))) := Lib.hid (HO1.out.store (p := ⟨g, 1, none⟩) (.inl rfl) _)
  go_wp2_with (first | (go_at_call 78; refine (HRA.out _).mono ?_; rintro e w3 ⟨rfl, k3⟩; have HP3 := Lib.hid (HP2.out.below k3); have HO3 := Lib.hid (HO2.out.trans (Only.of_below k3)); clear k3) | (go_at_call 76; refine (HONE.out _).mono ?_; rintro e w9 ⟨v9, rfl, ⟨A9, k9, rfl, h9⟩, b9⟩; have HS9 := Lib.hid h9; have HB9 := Lib.hid b9; clear h9 b9))
  go_ret
  exact ⟨_, _, rfl, ⟨A9, k9, rfl, HS9.out⟩, HR.out _ (HP3.out.below HB9.out), HO3.out.trans (Only.of_below HB9.out)⟩
set_option maxHeartbeats 4000000 in
set_option maxRecDepth 100000 in
theorem atom_dot {s : ByteArray} {g a F : Nat} {r : List Nat} (hs : s.size ≤ 512) (hr : rst s a = 46 :: r) {w : World} (H : Hid (par w g s a 0 0)) :
    Calls Tryd.prog 67 #[.pointer (some ⟨g, 0, none⟩)] w fun e w' => ∃ v l, e = .returned v ∧ slT w' v l ∧ res s g 0 a (prs (F + 1) .atom (rst s a)) l w' ∧ Only (· = g) w w' := by
  have hb := get_bt s
  obtain ⟨hal, hc, hbt, hr1⟩ := rst_next hr
  have hs1 : s.size ≤ 1000000 := by omega
  have hlen := rst_len s a
  rw [hr, List.length_cons] at hlen
  have HG := Lib.hid H.out.lt
  have hix : (a : Int) < (s.size : Int) := by omega
  have ha0 : (0 : Int) ≤ (a : Int) := by omega
  have ha1 : (a : Int) ≤ 1000000 := by omega
  have c0 := H.out.c0
  have c1 := H.out.c1
  have HR : Hid (∀ w', par w' g s (a + 1) 0 0 → res s g 0 a (prs (F + 1) .atom (rst s a)) [⟨1, 0, notL (one 10), 0, 0⟩] w') := Lib.hid (fun w' hp => by
    rw [hr]
    unfold prs
    simp only [show ¬ (46 = 40) by decide, show ¬ (46 = 91) by decide, if_false, if_true]
    exact ⟨by rw [enc], by unfold okT; exact dot_ok, a + 1, by omega, by omega, hr1, hp, by simp only [List.length_cons, List.length_nil]; omega⟩)
  have HONE : Hid (∀ w, Calls Tryd.prog 76 #[.agg (sv (notL (one 10)))] w fun e w' => ∃ v', e = .returned v' ∧ slT w' v' [⟨1, 0, notL (one 10), 0, 0⟩] ∧ Below w.heap.size w w') := Lib.hid (fun w => one_any (notL_set (one_set 10)) w)
  have HOF : Hid (∀ w, Calls Tryd.prog 54 #[.string ⟨#[10]⟩] w fun e w' => e = .returned (.agg (sv (one 10))) ∧ Below w.heap.size w w') := Lib.hid (fun w => by have := Of_any ⟨#[10]⟩ w (by decide); rw [show ofS (⟨#[10]⟩ : ByteArray).data.toList = (one 10) from rfl] at this; exact this)
  have HNO : Hid (∀ w, Calls Tryd.prog 41 #[.agg (sv (one 10))] w fun e w' => e = .returned (.agg (sv (notL (one 10)))) ∧ Below w.heap.size w w') := Lib.hid (fun w => Not_any (one_set 10) w)
  generalize notL (one 10) = NS at *
  generalize one 10 = OS at *
  clear hr hr1 hlen hal hc
  go_enter Tryd.func67, Tryd.ntmps67
  go_wp2
  go_quiet (fail)
  simp only [Exit.then]
  clear c0 c1
  obtain ⟨w1, hw1⟩ : ∃ w1, w1 = w.drewN nq := ⟨_, rfl⟩
  have HP1 : Hid (par w1 g s a 0 0) := Lib.hid (by rw [hw1]; exact H.out.draws _)
  have HO1 : Hid (Only (· = g) w w1) := Lib.hid (by rw [hw1]; exact (Only.refl _ w).draws _)
  try rw [← hw1]
  clear hw1
  have d1 := HP1.out.c1
  have f1 := HP1.out.frozen 1
  have HP2 := Lib.hid HP1.out.step
  have HO2 : Hid (Only (· = g) w (w1.setCell ⟨g, 1, none⟩ (.int .i64 ((a : Int) + 1)))) := Lib.hid (HO1.out.store (p := ⟨g, 1, none⟩) (.inl rfl) _)
  go_wp2_with (first | (go_at_call 54; refine (HOF.out _).mono ?_; rintro e w3 ⟨rfl, k3⟩; have HP3 := Lib.hid (HP2.out.below k3); have HO3 := Lib.hid (HO2.out.trans (Only.of_below k3)); clear k3) | (go_at_call 41; refine (HNO.out _).mono ?_; rintro e w4 ⟨rfl, k4⟩; have HP4 := Lib.hid (HP3.out.below k4); have HO4 := Lib.hid (HO3.out.trans (Only.of_below k4)); clear k4) | (go_at_call 76; refine (HONE.out _).mono ?_; rintro e w9 ⟨v9, rfl, ⟨A9, k9, rfl, h9⟩, b9⟩; have HS9 := Lib.hid h9; have HB9 := Lib.hid b9; clear h9 b9))
  go_ret
  exact ⟨_, _, rfl, ⟨A9, k9, rfl, HS9.out⟩, HR.out _ (HP4.out.below HB9.out), HO4.out.trans (Only.of_below HB9.out)⟩
set_option maxHeartbeats 4000000 in
set_option maxRecDepth 100000 in
theorem atom_esc {s : ByteArray} {g a F : Nat} {r : List Nat} (hs : s.size ≤ 512) (hr : rst s a = 92 :: r) {w : World} (H : Hid (par w g s a 0 0)) :
    Calls Tryd.prog 67 #[.pointer (some ⟨g, 0, none⟩)] w fun e w' => ∃ v l, e = .returned v ∧ slT w' v l ∧ res s g 0 a (prs (F + 1) .atom (rst s a)) l w' ∧ Only (· = g) w w' := by
  have hb := get_bt s
  obtain ⟨hal, hc, hbt, hr1⟩ := rst_next hr
  have hs1 : s.size ≤ 1000000 := by omega
  have hlen := rst_len s a
  rw [hr, List.length_cons] at hlen
  have HG := Lib.hid H.out.lt
  have hix : (a : Int) < (s.size : Int) := by omega
  have ha0 : (0 : Int) ≤ (a : Int) := by omega
  have ha1 : (a : Int) ≤ 1000000 := by omega
  have c0 := H.out.c0
  have c1 := H.out.c1
  have HR : Hid (∀ w' z, chrA s g (escP r) z w' → res s g 0 a (prs (F + 1) .atom (rst s a)) [⟨1, 0, z, 0, 0⟩] w') := Lib.hid (fun w' z hp => by
    rw [hr]
    unfold prs
    simp only [show ¬ (92 = 40) by decide, show ¬ (92 = 91) by decide, show ¬ (92 = 46) by decide, if_false, if_true]
    have hall := esc_all r
    obtain ⟨_, hp⟩ := hp
    cases hq : escP r with
    | err e k =>
      rw [hq] at hp
      exact ⟨hp.2, by simp; omega⟩
    | ok x r2 =>
      rw [hq] at hp hall
      obtain ⟨x1, x2⟩ := x
      obtain ⟨h1, _, a', h3, h4, h5⟩ := hp
      have h6 : r2.length < r.length := hall.2
      have h7 := rst_len s a'
      rw [h5] at h7
      have h8 : setOk x1 := hall.1
      refine ⟨by rw [enc, h1], by unfold okT; exact h8, a', by omega, h3, h5, h4, by simp; omega⟩)
  have HE : Hid (∀ u, par u g s a 0 0 → Calls Tryd.prog 77 #[.pointer (some ⟨g, 0, none⟩)] u fun e w' => ∃ z, e = .returned (.agg (sv z)) ∧ chrA s g (escP r) z w' ∧ Only (· = g) u w') := Lib.hid (fun u h => escape_any hs1 hr (Lib.hid h))
  have HONE : Hid (∀ z, isSet z → ∀ w, Calls Tryd.prog 76 #[.agg (sv z)] w fun e w' => ∃ v', e = .returned v' ∧ slT w' v' [⟨1, 0, z, 0, 0⟩] ∧ Below w.heap.size w w') := Lib.hid (fun z hz w => one_any hz w)
  clear hr hr1 hlen hal hc
  go_enter Tryd.func67, Tryd.ntmps67
  go_wp2
  go_quiet (fail)
  simp only [Exit.then]
  clear c0 c1
  obtain ⟨w1, hw1⟩ : ∃ w1, w1 = w.drewN nq := ⟨_, rfl⟩
  have HP1 : Hid (par w1 g s a 0 0) := Lib.hid (by rw [hw1]; exact H.out.draws _)
  have HO1 : Hid (Only (· = g) w w1) := Lib.hid (by rw [hw1]; exact (Only.refl _ w).draws _)
  try rw [← hw1]
  clear hw1
  go_wp2_with (first | (go_at_call 77; refine (HE.out _ HP1.out).mono ?_; rintro e w3 ⟨z, rfl, hz, o⟩; have HZ := Lib.hid hz; have HO3 := Lib.hid (HO1.out.trans o); clear hz o) | (go_at_call 76; refine (HONE.out z HZ.out.1 _).mono ?_; rintro e w9 ⟨v9, rfl, ⟨A9, k9, rfl, h9⟩, b9⟩; have HS9 := Lib.hid h9; have HB9 := Lib.hid b9; clear h9 b9))
  go_ret
  exact ⟨_, _, rfl, ⟨A9, k9, rfl, HS9.out⟩, HR.out _ z (chrA_below HZ.out HB9.out), HO3.out.trans (Only.of_below HB9.out)⟩
set_option maxHeartbeats 4000000 in
set_option maxRecDepth 100000 in
theorem atom_bad93 {s : ByteArray} {g a F : Nat} {r : List Nat} (hs : s.size ≤ 512) (hr : rst s a = 93 :: r) {w : World} (H : Hid (par w g s a 0 0)) :
    Calls Tryd.prog 67 #[.pointer (some ⟨g, 0, none⟩)] w fun e w' => ∃ v l, e = .returned v ∧ slT w' v l ∧ res s g 0 a (prs (F + 1) .atom (rst s a)) l w' ∧ Only (· = g) w w' := by
  have hb := get_bt s
  obtain ⟨hal, hc, hbt, hr1⟩ := rst_next hr
  have hs1 : s.size ≤ 1000000 := by omega
  have hlen := rst_len s a
  rw [hr, List.length_cons] at hlen
  have HG := Lib.hid H.out.lt
  have hix : (a : Int) < (s.size : Int) := by omega
  have ha0 : (0 : Int) ≤ (a : Int) := by omega
  have ha1 : (a : Int) ≤ 1000000 := by omega
  have c0 := H.out.c0
  have c1 := H.out.c1
  have HR : Hid (∀ w', par w' g s s.size 15 (a : Int) → res s g 0 a (prs (F + 1) .atom (rst s a)) [] w') := Lib.hid (fun w' hp => by
    have hsp : spcQ 93 := by unfold spcQ; decide
    rw [hr]
    unfold prs
    simp only [show ¬ (93 = 40) by decide, show ¬ (93 = 91) by decide, show ¬ (93 = 46) by decide, show ¬ (93 = 92) by decide, if_false, if_pos hsp]
    exact ⟨dead_at (by decide) hp (by omega), by simp; omega⟩)
  clear hr hr1 hlen hal hc
  go_enter Tryd.func67, Tryd.ntmps67
  go_wp2
  go_quiet (fail)
  simp only [Exit.then]
  clear c0 c1
  obtain ⟨w1, hw1⟩ : ∃ w1, w1 = w.drewN nq := ⟨_, rfl⟩
  have HP1 : Hid (par w1 g s a 0 0) := Lib.hid (by rw [hw1]; exact H.out.draws _)
  have HO1 : Hid (Only (· = g) w w1) := Lib.hid (by rw [hw1]; exact (Only.refl _ w).draws _)
  try rw [← hw1]
  clear hw1
  have d1 := HP1.out.c1
  go_wp2_with (go_at_call 23; refine (fail_first 15 (a : Int) HP1.out).mono ?_; rintro e w3 ⟨rfl, p, o⟩; have HP3 := Lib.hid p; have HO3 := Lib.hid (HO1.out.trans o); clear p o)
  go_ret
  exact ⟨_, [], rfl, slT_nil _, HR.out _ HP3.out, HO3.out⟩
set_option maxHeartbeats 4000000 in
set_option maxRecDepth 100000 in
theorem atom_bad123 {s : ByteArray} {g a F : Nat} {r : List Nat} (hs : s.size ≤ 512) (hr : rst s a = 123 :: r) {w : World} (H : Hid (par w g s a 0 0)) :
    Calls Tryd.prog 67 #[.pointer (some ⟨g, 0, none⟩)] w fun e w' => ∃ v l, e = .returned v ∧ slT w' v l ∧ res s g 0 a (prs (F + 1) .atom (rst s a)) l w' ∧ Only (· = g) w w' := by
  have hb := get_bt s
  obtain ⟨hal, hc, hbt, hr1⟩ := rst_next hr
  have hs1 : s.size ≤ 1000000 := by omega
  have hlen := rst_len s a
  rw [hr, List.length_cons] at hlen
  have HG := Lib.hid H.out.lt
  have hix : (a : Int) < (s.size : Int) := by omega
  have ha0 : (0 : Int) ≤ (a : Int) := by omega
  have ha1 : (a : Int) ≤ 1000000 := by omega
  have c0 := H.out.c0
  have c1 := H.out.c1
  have HR : Hid (∀ w', par w' g s s.size 15 (a : Int) → res s g 0 a (prs (F + 1) .atom (rst s a)) [] w') := Lib.hid (fun w' hp => by
    have hsp : spcQ 123 := by unfold spcQ; decide
    rw [hr]
    unfold prs
    simp only [show ¬ (123 = 40) by decide, show ¬ (123 = 91) by decide, show ¬ (123 = 46) by decide, show ¬ (123 = 92) by decide, if_false, if_pos hsp]
    exact ⟨dead_at (by decide) hp (by omega), by simp; omega⟩)
  clear hr hr1 hlen hal hc
  go_enter Tryd.func67, Tryd.ntmps67
  go_wp2
  go_quiet (fail)
  simp only [Exit.then]
  clear c0 c1
  obtain ⟨w1, hw1⟩ : ∃ w1, w1 = w.drewN nq := ⟨_, rfl⟩
  have HP1 : Hid (par w1 g s a 0 0) := Lib.hid (by rw [hw1]; exact H.out.draws _)
  have HO1 : Hid (Only (· = g) w w1) := Lib.hid (by rw [hw1]; exact (Only.refl _ w).draws _)
  try rw [← hw1]
  clear hw1
  have d1 := HP1.out.c1
  go_wp2_with (go_at_call 23; refine (fail_first 15 (a : Int) HP1.out).mono ?_; rintro e w3 ⟨rfl, p, o⟩; have HP3 := Lib.hid p; have HO3 := Lib.hid (HO1.out.trans o); clear p o)
  go_ret
  exact ⟨_, [], rfl, slT_nil _, HR.out _ HP3.out, HO3.out⟩
set_option maxHeartbeats 4000000 in
set_option maxRecDepth 100000 in
theorem atom_bad125 {s : ByteArray} {g a F : Nat} {r : List Nat} (hs : s.size ≤ 512) (hr : rst s a = 125 :: r) {w : World} (H : Hid (par w g s a 0 0)) :
    Calls Tryd.prog 67 #[.pointer (some ⟨g, 0, none⟩)] w fun e w' => ∃ v l, e = .returned v ∧ slT w' v l ∧ res s g 0 a (prs (F + 1) .atom (rst s a)) l w' ∧ Only (· = g) w w' := by
  have hb := get_bt s
  obtain ⟨hal, hc, hbt, hr1⟩ := rst_next hr
  have hs1 : s.size ≤ 1000000 := by omega
  have hlen := rst_len s a
  rw [hr, List.length_cons] at hlen
  have HG := Lib.hid H.out.lt
  have hix : (a : Int) < (s.size : Int) := by omega
  have ha0 : (0 : Int) ≤ (a : Int) := by omega
  have ha1 : (a : Int) ≤ 1000000 := by omega
  have c0 := H.out.c0
  have c1 := H.out.c1
  have HR : Hid (∀ w', par w' g s s.size 15 (a : Int) → res s g 0 a (prs (F + 1) .atom (rst s a)) [] w') := Lib.hid (fun w' hp => by
    have hsp : spcQ 125 := by unfold spcQ; decide
    rw [hr]
    unfold prs
    simp only [show ¬ (125 = 40) by decide, show ¬ (125 = 91) by decide, show ¬ (125 = 46) by decide, show ¬ (125 = 92) by decide, if_false, if_pos hsp]
    exact ⟨dead_at (by decide) hp (by omega), by simp; omega⟩)
  clear hr hr1 hlen hal hc
  go_enter Tryd.func67, Tryd.ntmps67
  go_wp2
  go_quiet (fail)
  simp only [Exit.then]
  clear c0 c1
  obtain ⟨w1, hw1⟩ : ∃ w1, w1 = w.drewN nq := ⟨_, rfl⟩
  have HP1 : Hid (par w1 g s a 0 0) := Lib.hid (by rw [hw1]; exact H.out.draws _)
  have HO1 : Hid (Only (· = g) w w1) := Lib.hid (by rw [hw1]; exact (Only.refl _ w).draws _)
  try rw [← hw1]
  clear hw1
  have d1 := HP1.out.c1
  go_wp2_with (go_at_call 23; refine (fail_first 15 (a : Int) HP1.out).mono ?_; rintro e w3 ⟨rfl, p, o⟩; have HP3 := Lib.hid p; have HO3 := Lib.hid (HO1.out.trans o); clear p o)
  go_ret
  exact ⟨_, [], rfl, slT_nil _, HR.out _ HP3.out, HO3.out⟩
set_option maxHeartbeats 4000000 in
set_option maxRecDepth 100000 in
theorem atom_bad42 {s : ByteArray} {g a F : Nat} {r : List Nat} (hs : s.size ≤ 512) (hr : rst s a = 42 :: r) {w : World} (H : Hid (par w g s a 0 0)) :
    Calls Tryd.prog 67 #[.pointer (some ⟨g, 0, none⟩)] w fun e w' => ∃ v l, e = .returned v ∧ slT w' v l ∧ res s g 0 a (prs (F + 1) .atom (rst s a)) l w' ∧ Only (· = g) w w' := by
  have hb := get_bt s
  obtain ⟨hal, hc, hbt, hr1⟩ := rst_next hr
  have hs1 : s.size ≤ 1000000 := by omega
  have hlen := rst_len s a
  rw [hr, List.length_cons] at hlen
  have HG := Lib.hid H.out.lt
  have hix : (a : Int) < (s.size : Int) := by omega
  have ha0 : (0 : Int) ≤ (a : Int) := by omega
  have ha1 : (a : Int) ≤ 1000000 := by omega
  have c0 := H.out.c0
  have c1 := H.out.c1
  have HR : Hid (∀ w', par w' g s s.size 15 (a : Int) → res s g 0 a (prs (F + 1) .atom (rst s a)) [] w') := Lib.hid (fun w' hp => by
    have hsp : spcQ 42 := by unfold spcQ; decide
    rw [hr]
    unfold prs
    simp only [show ¬ (42 = 40) by decide, show ¬ (42 = 91) by decide, show ¬ (42 = 46) by decide, show ¬ (42 = 92) by decide, if_false, if_pos hsp]
    exact ⟨dead_at (by decide) hp (by omega), by simp; omega⟩)
  clear hr hr1 hlen hal hc
  go_enter Tryd.func67, Tryd.ntmps67
  go_wp2
  go_quiet (fail)
  simp only [Exit.then]
  clear c0 c1
  obtain ⟨w1, hw1⟩ : ∃ w1, w1 = w.drewN nq := ⟨_, rfl⟩
  have HP1 : Hid (par w1 g s a 0 0) := Lib.hid (by rw [hw1]; exact H.out.draws _)
  have HO1 : Hid (Only (· = g) w w1) := Lib.hid (by rw [hw1]; exact (Only.refl _ w).draws _)
  try rw [← hw1]
  clear hw1
  have d1 := HP1.out.c1
  go_wp2_with (go_at_call 23; refine (fail_first 15 (a : Int) HP1.out).mono ?_; rintro e w3 ⟨rfl, p, o⟩; have HP3 := Lib.hid p; have HO3 := Lib.hid (HO1.out.trans o); clear p o)
  go_ret
  exact ⟨_, [], rfl, slT_nil _, HR.out _ HP3.out, HO3.out⟩
set_option maxHeartbeats 4000000 in
set_option maxRecDepth 100000 in
theorem atom_bad43 {s : ByteArray} {g a F : Nat} {r : List Nat} (hs : s.size ≤ 512) (hr : rst s a = 43 :: r) {w : World} (H : Hid (par w g s a 0 0)) :
    Calls Tryd.prog 67 #[.pointer (some ⟨g, 0, none⟩)] w fun e w' => ∃ v l, e = .returned v ∧ slT w' v l ∧ res s g 0 a (prs (F + 1) .atom (rst s a)) l w' ∧ Only (· = g) w w' := by
  have hb := get_bt s
  obtain ⟨hal, hc, hbt, hr1⟩ := rst_next hr
  have hs1 : s.size ≤ 1000000 := by omega
  have hlen := rst_len s a
  rw [hr, List.length_cons] at hlen
  have HG := Lib.hid H.out.lt
  have hix : (a : Int) < (s.size : Int) := by omega
  have ha0 : (0 : Int) ≤ (a : Int) := by omega
  have ha1 : (a : Int) ≤ 1000000 := by omega
  have c0 := H.out.c0
  have c1 := H.out.c1
  have HR : Hid (∀ w', par w' g s s.size 15 (a : Int) → res s g 0 a (prs (F + 1) .atom (rst s a)) [] w') := Lib.hid (fun w' hp => by
    have hsp : spcQ 43 := by unfold spcQ; decide
    rw [hr]
    unfold prs
    simp only [show ¬ (43 = 40) by decide, show ¬ (43 = 91) by decide, show ¬ (43 = 46) by decide, show ¬ (43 = 92) by decide, if_false, if_pos hsp]
    exact ⟨dead_at (by decide) hp (by omega), by simp; omega⟩)
  clear hr hr1 hlen hal hc
  go_enter Tryd.func67, Tryd.ntmps67
  go_wp2
  go_quiet (fail)
  simp only [Exit.then]
  clear c0 c1
  obtain ⟨w1, hw1⟩ : ∃ w1, w1 = w.drewN nq := ⟨_, rfl⟩
  have HP1 : Hid (par w1 g s a 0 0) := Lib.hid (by rw [hw1]; exact H.out.draws _)
  have HO1 : Hid (Only (· = g) w w1) := Lib.hid (by rw [hw1]; exact (Only.refl _ w).draws _)
  try rw [← hw1]
  clear hw1
  have d1 := HP1.out.c1
  go_wp2_with (go_at_call 23; refine (fail_first 15 (a : Int) HP1.out).mono ?_; rintro e w3 ⟨rfl, p, o⟩; have HP3 := Lib.hid p; have HO3 := Lib.hid (HO1.out.trans o); clear p o)
  go_ret
  exact ⟨_, [], rfl, slT_nil _, HR.out _ HP3.out, HO3.out⟩
set_option maxHeartbeats 4000000 in
set_option maxRecDepth 100000 in
theorem atom_bad63 {s : ByteArray} {g a F : Nat} {r : List Nat} (hs : s.size ≤ 512) (hr : rst s a = 63 :: r) {w : World} (H : Hid (par w g s a 0 0)) :
    Calls Tryd.prog 67 #[.pointer (some ⟨g, 0, none⟩)] w fun e w' => ∃ v l, e = .returned v ∧ slT w' v l ∧ res s g 0 a (prs (F + 1) .atom (rst s a)) l w' ∧ Only (· = g) w w' := by
  have hb := get_bt s
  obtain ⟨hal, hc, hbt, hr1⟩ := rst_next hr
  have hs1 : s.size ≤ 1000000 := by omega
  have hlen := rst_len s a
  rw [hr, List.length_cons] at hlen
  have HG := Lib.hid H.out.lt
  have hix : (a : Int) < (s.size : Int) := by omega
  have ha0 : (0 : Int) ≤ (a : Int) := by omega
  have ha1 : (a : Int) ≤ 1000000 := by omega
  have c0 := H.out.c0
  have c1 := H.out.c1
  have HR : Hid (∀ w', par w' g s s.size 15 (a : Int) → res s g 0 a (prs (F + 1) .atom (rst s a)) [] w') := Lib.hid (fun w' hp => by
    have hsp : spcQ 63 := by unfold spcQ; decide
    rw [hr]
    unfold prs
    simp only [show ¬ (63 = 40) by decide, show ¬ (63 = 91) by decide, show ¬ (63 = 46) by decide, show ¬ (63 = 92) by decide, if_false, if_pos hsp]
    exact ⟨dead_at (by decide) hp (by omega), by simp; omega⟩)
  clear hr hr1 hlen hal hc
  go_enter Tryd.func67, Tryd.ntmps67
  go_wp2
  go_quiet (fail)
  simp only [Exit.then]
  clear c0 c1
  obtain ⟨w1, hw1⟩ : ∃ w1, w1 = w.drewN nq := ⟨_, rfl⟩
  have HP1 : Hid (par w1 g s a 0 0) := Lib.hid (by rw [hw1]; exact H.out.draws _)
  have HO1 : Hid (Only (· = g) w w1) := Lib.hid (by rw [hw1]; exact (Only.refl _ w).draws _)
  try rw [← hw1]
  clear hw1
  have d1 := HP1.out.c1
  go_wp2_with (go_at_call 23; refine (fail_first 15 (a : Int) HP1.out).mono ?_; rintro e w3 ⟨rfl, p, o⟩; have HP3 := Lib.hid p; have HO3 := Lib.hid (HO1.out.trans o); clear p o)
  go_ret
  exact ⟨_, [], rfl, slT_nil _, HR.out _ HP3.out, HO3.out⟩
end Go.Proofs.YtabcehifdomolaaDoor.Eat
namespace Go.Proofs.YtabcehifdomolaaDoor.Ein
open Go.RowKit Go.PlainAid Go.Proofs.YtabcehifdomolaaDoor.Vm Go.Proofs.YtabcehifdomolaaDoor.Vo Go.Proofs.YtabcehifdomolaaDoor.Bw Go.Proofs.YtabcehifdomolaaDoor.Na Go.Proofs.YtabcehifdomolaaDoor.Ko Go.Proofs.YtabcehifdomolaaDoor.Tm Go.Proofs.YtabcehifdomolaaDoor.Ts Go.Proofs.YtabcehifdomolaaDoor.Ta Go.Proofs.YtabcehifdomolaaDoor.Tb Go.Proofs.YtabcehifdomolaaDoor.Td Go.Proofs.YtabcehifdomolaaDoor.Tf Go.Proofs.YtabcehifdomolaaDoor.Rm Go.Proofs.YtabcehifdomolaaDoor.Rs Go.Proofs.YtabcehifdomolaaDoor.Rv Go.Proofs.YtabcehifdomolaaDoor.Ru Go.Proofs.YtabcehifdomolaaDoor.Ra Go.Proofs.YtabcehifdomolaaDoor.Ed Go.Proofs.YtabcehifdomolaaDoor.Ep Go.Proofs.YtabcehifdomolaaDoor.Er Go.Proofs.YtabcehifdomolaaDoor.Eo Go.Proofs.YtabcehifdomolaaDoor.Es Go.Proofs.YtabcehifdomolaaDoor.Et Go.Proofs.YtabcehifdomolaaDoor.Eu Go.Proofs.YtabcehifdomolaaDoor.Epa

/-- What a reader leaves: a list of nodes, a place, an error. -/
def left (s : ByteArray) (g : Nat) (Q : List Nd → Nat → Int → Int → Prop) (f : FuncId) (u : World) : Prop := Calls Tryd.prog f #[.pointer (some ⟨g, 0, none⟩)] u fun e w' => ∃ v l a' c q, e = .returned v ∧ slT w' v l ∧ a' ≤ s.size ∧ par w' g s a' c q ∧ ((c = 0 ∧ q = 0) ∨ (c ≠ 0 ∧ a' = s.size)) ∧ Q l a' c q ∧ Only (· = g) u w'
/-- How it ends: the bracket is closed, or it is not. -/
def shut (s : ByteArray) (m : ByteArray) (a a' : Nat) (c q : Int) (a2 : Nat) (c2 q2 : Int) : Prop :=
  (nxQ m (rst s a') = true ∧ a2 = a' + 1 ∧ c = 0 ∧ q = 0 ∧ c2 = 0 ∧ q2 = 0) ∨ (nxQ m (rst s a') = false ∧ a2 = s.size ∧ ((c = 0 ∧ q = 0 ∧ c2 = 16 ∧ q2 = (a : Int)) ∨ (c ≠ 0 ∧ c2 = c ∧ q2 = q)))
set_option maxHeartbeats 4000000 in
set_option maxRecDepth 100000 in
theorem inside_alt {s : ByteArray} {g a : Nat} {Q : List Nd → Nat → Int → Int → Prop} (hs : s.size ≤ 1000000) (hal : a + 1 ≤ s.size) (HRd : Hid (∀ u, par u g s (a + 1) 0 0 → left s g Q 22 u)) {w : World} (H : Hid (par w g s a 0 0)) :
    Calls Tryd.prog 74 #[.pointer (some ⟨g, 0, none⟩), .func (.func 22) #[.pointer (some ⟨g, 0, none⟩)] #[], .string ⟨#[41]⟩] w fun e w' => ∃ v l a' c q a2 c2 q2, e = .returned v ∧ slT w' v l ∧ a' ≤ s.size ∧ Q l a' c q ∧ shut s ⟨#[41]⟩ a a' c q a2 c2 q2 ∧ par w' g s a2 c2 q2 ∧ Only (· = g) w w' := by
  have HG := Lib.hid H.out.lt
  have has : (a : Int) ≤ 1000000 := by omega
  have c1 := H.out.c1
  have f1 := H.out.frozen 1
  have HP0 := Lib.hid H.out.step
  have HO0 : Hid (Only (· = g) w (w.setCell ⟨g, 1, none⟩ (.int .i64 ((a : Int) + 1)))) := Lib.hid ((Only.refl (· = g) w).store (p := ⟨g, 1, none⟩) (.inl rfl) _)
  clear hal
  go_enter Tryd.func74, Tryd.ntmps74
  go_upto_region 4 with (first | (go_at_call 22; refine (HRd.out _ HP0.out).mono ?_; rintro e w1 ⟨v1, l1, a1, c1, q1, rfl, ⟨A1, k1, rfl, hx⟩, h2, p1, h3, h4, o1⟩; have HS1 : Hid (slT w1 (.slice A1 l1.length k1) l1) := Lib.hid ⟨A1, k1, rfl, hx⟩; have HP1 := Lib.hid p1; have HA2 := Lib.hid h2; have HC1 := Lib.hid h3; have HQ1 := Lib.hid h4; have HO1 := Lib.hid (HO0.out.trans o1); clear hx h2 p1 h3 h4 o1))
  obtain ⟨n0, hn0⟩ : ∃ n0, n0 = l1.length := ⟨_, rfl⟩
  rw [← hn0]
  rw [← hn0] at HS1
  have HN0 := Lib.hid hn0
  clear hn0 f1
  by_cases hx : nxQ ⟨#[41]⟩ (rst s a1) = true
  · have HX := Lib.hid hx
    have hc : c1 = 0 ∧ q1 = 0 := by
      rcases HC1.out with h | ⟨_, rfl⟩
      · exact h
      · rw [rst_size] at hx; cases hx
    obtain ⟨rfl, rfl⟩ := hc
    clear hx
    go_wp2_with (first | (go_at_call 34; refine (take_yes hs HA2.out HX.out HP1.out).mono ?_; rintro e w2 ⟨rfl, p, o⟩; have HP2 := Lib.hid p; have HO2 := Lib.hid (HO1.out.trans o); have HS2 := Lib.hid (slT.apart HS1.out HP1.out o); clear p o))
    go_ret
    exact ⟨_, l1, a1, 0, 0, a1 + 1, 0, 0, rfl, HS2.out, HA2.out, HQ1.out, .inl ⟨HX.out, rfl, rfl, rfl, rfl, rfl⟩, HP2.out, HO2.out⟩
  · have hxf : nxQ ⟨#[41]⟩ (rst s a1) = false := by simpa using hx
    have HX := Lib.hid hxf
    have HF : Hid (∀ u, par u g s a1 c1 q1 → Calls Tryd.prog 23 #[.pointer (some ⟨g, 0, none⟩), .int .i64 16, .int .i64 (a : Int)] u fun r w' => r = .returned (.tuple #[]) ∧ (∃ c2 q2, par w' g s s.size c2 q2 ∧ shut s ⟨#[41]⟩ a a1 c1 q1 s.size c2 q2) ∧ Only (· = g) u w') := Lib.hid (fun u hu => by
      rcases HC1.out with ⟨rfl, rfl⟩ | ⟨h, _⟩
      · refine (fail_first 16 (a : Int) hu).mono ?_
        rintro e w' ⟨h1, h2, h3⟩
        exact ⟨h1, ⟨16, a, h2, .inr ⟨HX.out, rfl, .inl ⟨rfl, rfl, rfl, rfl⟩⟩⟩, h3⟩
      · refine (fail_late 16 (a : Int) h hu).mono ?_
        rintro e w' ⟨h1, h2, h3⟩
        exact ⟨h1, ⟨c1, q1, h2, .inr ⟨HX.out, rfl, .inr ⟨h, rfl, rfl⟩⟩⟩, h3⟩)
    clear hx hxf
    go_wp2_with (first | (go_at_call 34; refine (take_no hs HA2.out HX.out HP1.out).mono ?_; rintro e w2 ⟨rfl, p, o⟩; have HP2 := Lib.hid p; have HO2 := Lib.hid (HO1.out.trans o); have HS2 := Lib.hid (slT.apart HS1.out HP1.out o); clear p o) | (go_at_call 23; refine (HF.out _ HP2.out).mono ?_; rintro e w3 ⟨rfl, ⟨c3, q3, p3, h3⟩, o3⟩; have HP3 := Lib.hid p3; have HH3 := Lib.hid h3; have HO3 := Lib.hid (HO2.out.trans o3); have HS3 := Lib.hid (slT.apart HS2.out HP2.out o3); clear p3 h3 o3))
    go_ret
    exact ⟨_, l1, a1, c1, q1, s.size, c3, q3, rfl, HS3.out, HA2.out, HQ1.out, HH3.out, HP3.out, HO3.out⟩
set_option maxHeartbeats 4000000 in
set_option maxRecDepth 100000 in
theorem inside_class {s : ByteArray} {g a : Nat} {Q : List Nd → Nat → Int → Int → Prop} (hs : s.size ≤ 1000000) (hal : a + 1 ≤ s.size) (HRd : Hid (∀ u, par u g s (a + 1) 0 0 → left s g Q 75 u)) {w : World} (H : Hid (par w g s a 0 0)) :
    Calls Tryd.prog 74 #[.pointer (some ⟨g, 0, none⟩), .func (.func 75) #[.pointer (some ⟨g, 0, none⟩)] #[], .string ⟨#[93]⟩] w fun e w' => ∃ v l a' c q a2 c2 q2, e = .returned v ∧ slT w' v l ∧ a' ≤ s.size ∧ Q l a' c q ∧ shut s ⟨#[93]⟩ a a' c q a2 c2 q2 ∧ par w' g s a2 c2 q2 ∧ Only (· = g) w w' := by
  have HG := Lib.hid H.out.lt
  have has : (a : Int) ≤ 1000000 := by omega
  have c1 := H.out.c1
  have f1 := H.out.frozen 1
  have HP0 := Lib.hid H.out.step
  have HO0 : Hid (Only (· = g) w (w.setCell ⟨g, 1, none⟩ (.int .i64 ((a : Int) + 1)))) := Lib.hid ((Only.refl (· = g) w).store (p := ⟨g, 1, none⟩) (.inl rfl) _)
  clear hal
  go_enter Tryd.func74, Tryd.ntmps74
  go_upto_region 4 with (first | (go_at_call 75; refine (HRd.out _ HP0.out).mono ?_; rintro e w1 ⟨v1, l1, a1, c1, q1, rfl, ⟨A1, k1, rfl, hx⟩, h2, p1, h3, h4, o1⟩; have HS1 : Hid (slT w1 (.slice A1 l1.length k1) l1) := Lib.hid ⟨A1, k1, rfl, hx⟩; have HP1 := Lib.hid p1; have HA2 := Lib.hid h2; have HC1 := Lib.hid h3; have HQ1 := Lib.hid h4; have HO1 := Lib.hid (HO0.out.trans o1); clear hx h2 p1 h3 h4 o1))
  obtain ⟨n0, hn0⟩ : ∃ n0, n0 = l1.length := ⟨_, rfl⟩
  rw [← hn0]
  rw [← hn0] at HS1
  have HN0 := Lib.hid hn0
  clear hn0 f1
  by_cases hx : nxQ ⟨#[93]⟩ (rst s a1) = true
  · have HX := Lib.hid hx
    have hc : c1 = 0 ∧ q1 = 0 := by
      rcases HC1.out with h | ⟨_, rfl⟩
      · exact h
      · rw [rst_size] at hx; cases hx
    obtain ⟨rfl, rfl⟩ := hc
    clear hx
    go_wp2_with (first | (go_at_call 34; refine (take_yes hs HA2.out HX.out HP1.out).mono ?_; rintro e w2 ⟨rfl, p, o⟩; have HP2 := Lib.hid p; have HO2 := Lib.hid (HO1.out.trans o); have HS2 := Lib.hid (slT.apart HS1.out HP1.out o); clear p o))
    go_ret
    exact ⟨_, l1, a1, 0, 0, a1 + 1, 0, 0, rfl, HS2.out, HA2.out, HQ1.out, .inl ⟨HX.out, rfl, rfl, rfl, rfl, rfl⟩, HP2.out, HO2.out⟩
  · have hxf : nxQ ⟨#[93]⟩ (rst s a1) = false := by simpa using hx
    have HX := Lib.hid hxf
    have HF : Hid (∀ u, par u g s a1 c1 q1 → Calls Tryd.prog 23 #[.pointer (some ⟨g, 0, none⟩), .int .i64 16, .int .i64 (a : Int)] u fun r w' => r = .returned (.tuple #[]) ∧ (∃ c2 q2, par w' g s s.size c2 q2 ∧ shut s ⟨#[93]⟩ a a1 c1 q1 s.size c2 q2) ∧ Only (· = g) u w') := Lib.hid (fun u hu => by
      rcases HC1.out with ⟨rfl, rfl⟩ | ⟨h, _⟩
      · refine (fail_first 16 (a : Int) hu).mono ?_
        rintro e w' ⟨h1, h2, h3⟩
        exact ⟨h1, ⟨16, a, h2, .inr ⟨HX.out, rfl, .inl ⟨rfl, rfl, rfl, rfl⟩⟩⟩, h3⟩
      · refine (fail_late 16 (a : Int) h hu).mono ?_
        rintro e w' ⟨h1, h2, h3⟩
        exact ⟨h1, ⟨c1, q1, h2, .inr ⟨HX.out, rfl, .inr ⟨h, rfl, rfl⟩⟩⟩, h3⟩)
    clear hx hxf
    go_wp2_with (first | (go_at_call 34; refine (take_no hs HA2.out HX.out HP1.out).mono ?_; rintro e w2 ⟨rfl, p, o⟩; have HP2 := Lib.hid p; have HO2 := Lib.hid (HO1.out.trans o); have HS2 := Lib.hid (slT.apart HS1.out HP1.out o); clear p o) | (go_at_call 23; refine (HF.out _ HP2.out).mono ?_; rintro e w3 ⟨rfl, ⟨c3, q3, p3, h3⟩, o3⟩; have HP3 := Lib.hid p3; have HH3 := Lib.hid h3; have HO3 := Lib.hid (HO2.out.trans o3); have HS3 := Lib.hid (slT.apart HS2.out HP2.out o3); clear p3 h3 o3))
    go_ret
    exact ⟨_, l1, a1, c1, q1, s.size, c3, q3, rfl, HS3.out, HA2.out, HQ1.out, HH3.out, HP3.out, HO3.out⟩
end Go.Proofs.YtabcehifdomolaaDoor.Ein
