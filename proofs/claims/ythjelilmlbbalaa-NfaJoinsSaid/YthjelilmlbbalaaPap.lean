/-
  The reference's tables of truths (layer 17): grid, same.
  An automaton that is being made, in memory (layer 17): its blocks, and what it means that it alone goes on.
  An automaton that is being made: the program's state (layer 17).
  The reference's Run (layer 17): the rules after a text.
  The automaton that the program makes of trees (layer 17), in lists: the rules after a text are those whose trees match it.
  How many edges the program's automata have (layer 17), in lists; parts of a list of trees one by one.
  The reference's reader of expressions, of a byte that stands for itself (layer 17's known() reads two texts).
  The reference's rep, many and cat, of a byte that stands for itself (layer 17's known() reads two texts).
  The reference's alt of one plain byte, and of two with a bar between them (layer 17's known() reads these two texts).
  The reference's Parse of a text that alt reads whole; of "b" and of "a|b" (layer 17's known()).
  The reference's tables of truths (layer 17): either, then, often, times.
  The reference's tables of truths (layer 17): times.
  Conditions: as each theorem says.
-/
import Derived.Test.YthjelilmlbbalaaPan
import Derived.Deep.LoopGhost
import Derived.StillTailTactics
import Derived.BigQuiet
import Derived.Deep.QuietTactic
import Derived.Test.YthjelilmlbbalaaPaj
import Derived.Test.YthjelilmlbbalaaPak
import Derived.Test.YthjelilmlbbalaaPao
import Derived.BigRegion
namespace Go.Proofs.Ythjelilmlbbalaa.Ar
open Go.RowKit Go.Proofs.Ythjelilmlbbalaa.Vm Go.Proofs.Ythjelilmlbbalaa.Vo Go.Proofs.Ythjelilmlbbalaa.Bw Go.Proofs.Ythjelilmlbbalaa.Na Go.Proofs.Ythjelilmlbbalaa.Ko Go.Proofs.Ythjelilmlbbalaa.Ed Go.Proofs.Ythjelilmlbbalaa.Am Go.Proofs.Ythjelilmlbbalaa.Ap Go.Proofs.Ythjelilmlbbalaa.Ag

theorem infoB : (Try.prog.info? 4).map (fun i => (i.zero, i.size, i.bytes)) = some (some (.bool false), 1, 1) := by kernel_rfl
theorem infoBS : (Try.prog.info? 73).map (fun i => (i.zero, i.size, i.bytes)) = some (some (.slice none 0 0), 1, 24) := by kernel_rfl
theorem made_bl (n : Nat) (hn : n ≤ 1000000) (u : World) : (Instr.makeSlice 73 (.int .i64 (n : Int)) (.int .i64 (n : Int))).run Try.prog u = .ok (.slice (some ⟨u.heap.size, 0, none⟩) n n) (u.alloc (.cells (bls n (fun _ => false)) 4)) := by
  obtain ⟨i0, hi, hz0, hz1, hz2⟩ := info_parts infoB
  have h := run_make (P := Try.prog) u 73 4 i0 (.bool false) Try.underlying73 hi hz0 .i64 .i64 (n : Int) (n : Int) (by omega) (by omega) (by rw [hz2]; omega) (by omega)
  have e : madeCells (Value.bool false).cells (n * i0.size) = bls n (fun _ => false) := by
    rw [hz1]
    apply Array.ext
    · simp [madeCells, bls]
    · intro j h1 h2
      simp [madeCells, bls, Value.cells]
      simp [Nat.mod_one]
  simp only [Int.toNat_natCast, e] at h
  exact h
/-- 'append(v, x)', x in a cell of its own: only the row's block has changed. -/
theorem wpList_vsO {t e : TypeId} (ht : Try.prog.underlying t = some (.slice e)) {z : Value} {by' : Nat} (hinf : (Try.prog.info? e).map (fun i => (i.zero, i.size, i.bytes)) = some (some z, 1, by')) (hz : z.cells.size = 1) (hby : by' ≤ 1000)
    {ops : Array Oper} {rest : List Oper} {o : Oper} {a : Act} {Q : Exit → Act → World → Prop} (hgd : o.guard = none) (s x : Operand)
    (ho : o.op = .call { callee := .builtin .append, args := #[s, x], argTypes := #[t, t] }) {base : Nat} {w : World} (hb : base ≤ w.heap.size)
    {v : Value} {l : List Value} (hs : a.eval s = v) (hown : vs w base e v l) (c : Value) (hc : c.oneCell' = true) {m k N : Nat} (hm : m = 1) (hx : a.eval x = .slice (some ⟨N, 0, none⟩) m k) (hN : N = w.heap.size)
    (hlen : l.length ≤ 1000000000)
    (h : ∀ v' w', vs w' base e v' (l ++ [c]) → Only (fun i => v.ownBlock = some i) w w' → wpList Try.prog ops Q rest (a.put o.dst v') w') : wpList Try.prog ops Q (o :: rest) a (w.alloc (.cells #[c] e)) := by
  subst hN
  obtain ⟨i0, hi, hz0, hz1, hz2⟩ := info_parts hinf
  have hmul : (l.length + 1) * by' ≤ (l.length + 1) * 1000 := Nat.mul_le_mul_left _ hby
  refine wpList_append_own_at _ hgd s x t ho base e i0 z 1 by' ht hi hz0 hz1 hz2 hz (by decide) v l.length l hs (World.ownsRow.alloc hown _) ⟨w.heap.size, 0, none⟩ m k [c] hx (by rw [hm]; rfl) (cell_one_new _ _ _) (by intro u hu; simp at hu; subst hu; exact hc) (by unfold maxLen; omega) (by rw [hm]; omega) (by rw [size_alloc]; omega) (fun v' w' h2 h3 _ _ => h v' w' ?_ (((Only.refl _ w).alloc _).grown h3 (fun i hi _ => hi)))
  have : w'.ownsRow base e 1 v' (l ++ [c]).length (l ++ [c]) := by
    rw [List.length_append, show [c].length = m by rw [hm]; rfl]; exact h2
  exact this
/-- A row of rows on the way. -/
def half (w : World) (base : Nat) (v : Value) (n k : Nat) (b : Nat → Nat) : Prop := vs w base 73 v ((List.range k).map (fun i => .slice (some ⟨b i, 0, none⟩) n n)) ∧ (∀ i, i < k → base ≤ b i ∧ Blk w (b i) 4 (bls n (fun _ => false))) ∧ ∀ i j, i < k → j < k → b i = b j → i = j
theorem half_next {w w' : World} {base : Nat} {v v' : Value} {n k : Nat} {b : Nat → Nat} (hb : base ≤ w.heap.size) (h : half w base v n k b) (h1 : vs w' base 73 v' ((List.range k).map (fun i => .slice (some ⟨b i, 0, none⟩) n n) ++ [.slice (some ⟨w.heap.size, 0, none⟩) n n])) (h2 : Only (fun i => v.ownBlock = some i) (w.alloc (.cells (bls n (fun _ => false)) 4)) w') :
    half w' base v' n (k + 1) (fun i => if i = k then w.heap.size else b i) := by
  obtain ⟨a1, a2, a3⟩ := h
  have hlt : ∀ i, i < k → b i < w.heap.size := fun i hi => (a2 i hi).2.lt
  have hne : ∀ i, v.ownBlock = some i → i ≠ w.heap.size := fun i hi => by have := (a1.lo i hi).2; omega
  refine ⟨?_, fun i hi => ?_, fun i j hi hj e => ?_⟩
  · rw [List.range_succ, List.map_append]
    have e : (List.range k).map (fun i => Value.slice (some ⟨if i = k then w.heap.size else b i, 0, none⟩) n n) = (List.range k).map (fun i => Value.slice (some ⟨b i, 0, none⟩) n n) := by
      apply List.map_congr_left
      intro i hi
      have := List.mem_range.1 hi
      rw [if_neg (by omega)]
    rw [e]
    simpa using h1
  · dsimp only
    by_cases e : i = k
    · rw [if_pos e]
      exact ⟨hb, (Blk.fresh w _ _).only h2 (fun hi => hne _ hi rfl)⟩
    · rw [if_neg e]
      have hi' : i < k := by omega
      exact ⟨(a2 i hi').1, ((a2 i hi').2.below (below_alloc _ _)).only h2 (fun hb' => own_apart (n := ((List.range k).map (fun i => Value.slice (some ⟨b i, 0, none⟩) n n)).length) a1 (a2 i hi').2 (by decide) _ hb' rfl)⟩
  · dsimp only at e
    by_cases ei : i = k <;> by_cases ej : j = k
    · omega
    · rw [if_pos ei, if_neg ej] at e
      have := hlt j (by omega)
      omega
    · rw [if_neg ei, if_pos ej] at e
      have := hlt i (by omega)
      omega
    · rw [if_neg ei, if_neg ej] at e
      exact a3 i j (by omega) (by omega) e
theorem half_all {w : World} {base : Nat} {v : Value} {n : Nat} {b : Nat → Nat} (h0 : 0 < n) (h : half w base v n n b) : grd w 4 base v n noG := by
  obtain ⟨a1, a2, a3⟩ := h
  obtain ⟨A, cap, hv, hc⟩ := a1.le
  rw [List.length_map, List.length_range] at hv hc
  subst hv
  have hget : ∀ p, p < n → ((List.range n).map (fun i => Value.slice (some ⟨b i, 0, none⟩) n n))[p]? = some (.slice (some ⟨b p, 0, none⟩) n n) := fun p hp => by
    rw [List.getElem?_map, List.getElem?_range hp]; rfl
  obtain ⟨g, rfl, hg, _⟩ := vs.cell a1 (hget 0 h0)
  refine ⟨g, cap, b, rfl, hc, (a1.lo g rfl).1, fun p hp => (a2 p hp).1, hg, fun p hp => ?_, fun p hp => (a2 p hp).2, fun p hp => ?_, fun p q hp hq => a3 p q hp hq⟩
  · obtain ⟨g', e, _, hcell⟩ := vs.cell a1 (hget p hp)
    injection e with e
    injection e with e _ _
    subst e
    exact hcell
  · exact fun e => own_apart (n := ((List.range n).map (fun i => Value.slice (some ⟨b i, 0, none⟩) n n)).length) a1 (a2 p hp).2 (by decide) g rfl e.symm

set_option maxHeartbeats 2000000 in
set_option maxRecDepth 100000 in
theorem grid_any {n : Nat} (h0 : 0 < n) (hn : n ≤ 100000) (w : World) : Calls Try.prog 70 #[.int .i64 (n : Int)] w fun e w' => ∃ v, e = .returned v ∧ grd w' 4 w.heap.size v n noG ∧ Below w.heap.size w w' := by
  have hmk := made_bl n (by omega)
  go_enter Try.func70, Try.ntmps70
  go_wp2
  go_loopw [3, 4] (fun s3 s4 wr => ∃ (k : Nat) (v : Value) (b : Nat → Nat), s3 = v ∧ s4 = .int .i64 (k : Int) ∧ k ≤ n ∧ Hid (half wr w.heap.size v n k b) ∧ Hid (Below w.heap.size w wr)) (fun _ s4 _ => n - (intOf s4).toNat)
  case atStart => exact ⟨0, _, fun _ => 0, rfl, rfl, by omega, Lib.hid ⟨vs_nil _ _ _, fun i hi => absurd hi (by omega), fun i j hi => absurd hi (by omega)⟩, Lib.hid (Below.refl _ _)⟩
  case round =>
    obtain ⟨k, v, b, rfl, rfl, hk, HH, HB⟩ := hrel
    by_cases hkn : k < n
    · have hkn' : (k : Int) < (n : Int) := by omega
      have HKN := Lib.hid hkn
      have HBS := Lib.hid HB.out.size
      have HV := Lib.hid (HH.out.1.below (below_alloc wr (.cells (bls n (fun _ => false)) 4)))
      have HLE : Hid ((((List.range k).map (fun i => Value.slice (some ⟨b i, 0, none⟩) n n))).length ≤ 1000000000) := Lib.hid (by rw [List.length_map, List.length_range]; omega)
      have HFR := Lib.hid (size_alloc wr (.cells (bls n (fun _ => false)) 4))
      obtain ⟨L, hL⟩ : ∃ L, L = (List.range k).map (fun i => Value.slice (some ⟨b i, 0, none⟩) n n) := ⟨_, rfl⟩
      have HL := Lib.hid hL
      rw [← hL] at HV HLE
      obtain ⟨A3, c3, hv3, _⟩ := HV.out.le
      subst hv3
      clear hkn hL
      go_wp2_with (at_builtin; refine wpList_vsO Try.underlying96 infoBS rfl (by decide) rfl _ _ rfl (base := w.heap.size) (by rw [HFR.out]; have := HBS.out; omega) (by rfl) HV.out (.slice (some ⟨wr.heap.size, 0, none⟩) n n) rfl rfl (by rfl) (by first | exact HFR.out.symm | rfl) HLE.out ?_; intro v4 w4 h4 o4; have HV4 := Lib.hid h4; have HO4 := Lib.hid o4; clear h4 o4)
      go_roundw
      case rel =>
        refine ⟨k + 1, _, _, rfl, by go_num, by have := HKN.out; omega, Lib.hid (half_next HBS.out HH.out (by rw [← HL.out]; exact HV4.out) HO4.out), Lib.hid ?_⟩
        exact HO4.out.below (grows HB.out (below_alloc _ _)) (by rw [HFR.out]; have := HBS.out; omega) (fun i hi => (HV.out.lo i hi).1)
      case measure => have := HKN.out; simp [intOf]; omega
    · obtain rfl : k = n := by omega
      have hkn' : ¬ (k : Int) < (k : Int) := by omega
      have HR := Lib.hid (half_all h0 HH.out)
      obtain ⟨g, cap, b', hv, _⟩ := HR.out
      subst hv
      go_wp2
      go_ret
      exact ⟨_, rfl, HR.out, HB.out⟩
set_option maxHeartbeats 2000000 in
set_option maxRecDepth 100000 in
theorem same_any {n : Nat} (h0 : 0 < n) (hn : n ≤ 100000) (w : World) : Calls Try.prog 71 #[.int .i64 (n : Int)] w fun e w' => ∃ v, e = .returned v ∧ grd w' 4 w.heap.size v n sameG ∧ Below w.heap.size w w' := by
  have HG := Lib.hid (grid_any h0 hn w)
  go_enter Try.func71, Try.ntmps71
  go_wp2_with (go_at_call 70; refine HG.out.mono ?_; rintro e w1 ⟨v, rfl, h1, k1⟩; have HB1 := Lib.hid k1; obtain ⟨g, cap, b, rfl, hcap, hg, hb, hx⟩ := h1; have HX := Lib.hid hx; have Hg := Lib.hid hg; have Hb := Lib.hid hb; clear k1 hx hg hb)
  go_loopw [4] (fun s4 wr => ∃ k : Nat, s4 = .int .i64 (k : Int) ∧ k ≤ n ∧ Hid (grdx wr 4 g b n (fun p q => decide (p < k) && (p == q))) ∧ Hid (Below w.heap.size w wr)) (fun s4 _ => n - (intOf s4).toNat)
  case atStart => exact ⟨0, rfl, by omega, Lib.hid (HX.out.congr (fun p q _ _ => by unfold noG; simp)), HB1⟩
  case round =>
    obtain ⟨k, rfl, hk, HH, HB⟩ := hrel
    by_cases hkn : k < n
    · have hkn' : (k : Int) < (n : Int) := by omega
      have hk0 : (0 : Int) ≤ (k : Int) := by omega
      have HKN := Lib.hid hkn
      have c1 := HH.out.row k hkn
      have c2 := HH.out.cell hkn hkn
      have f2 := (HH.out.blk k hkn).frozen k
      have HN := Lib.hid (HH.out.store hkn hkn true)
      have HBN := Lib.hid (HB.out.setCell (p := ⟨b k, k, none⟩) (Hb.out k hkn) (.bool true))
      obtain ⟨w2, hw2⟩ : ∃ w2, w2 = wr.setCell ⟨b k, k, none⟩ (.bool true) := ⟨_, rfl⟩
      rw [← hw2] at HN HBN
      clear hkn
      go_wp2
      rw [← hw2]
      go_roundw
      case rel => exact ⟨k + 1, by go_num, by have := HKN.out; omega, Lib.hid (HN.out.congr (fun p q _ _ => by
        unfold upd
        by_cases e : p = k
        · subst e
          rw [if_pos rfl]
          by_cases e2 : q = p
          · subst e2; simp
          · rw [if_neg e2]; simp; omega
        · rw [if_neg e]
          by_cases e2 : p < k
          · simp [e2, show p < k + 1 by omega]
          · simp [e2, show ¬ p < k + 1 by omega])), HBN⟩
      case measure => have := HKN.out; simp [intOf]; omega
    · obtain rfl : k = n := by omega
      have hkn' : ¬ (k : Int) < (k : Int) := by omega
      go_wp2
      go_ret
      exact ⟨_, rfl, ⟨g, cap, b, rfl, hcap, Hg.out, Hb.out, HH.out.congr (fun p q hp _ => by unfold sameG; simp [hp])⟩, HB.out⟩
end Go.Proofs.Ythjelilmlbbalaa.Ar
namespace Go.Proofs.Ythjelilmlbbalaa.Da
open Go.RowKit Go.Proofs.Ythjelilmlbbalaa.Vm Go.Proofs.Ythjelilmlbbalaa.Vo Go.Proofs.Ythjelilmlbbalaa.Bw Go.Proofs.Ythjelilmlbbalaa.Na Go.Proofs.Ythjelilmlbbalaa.Ko Go.Proofs.Ythjelilmlbbalaa.Tm Go.Proofs.Ythjelilmlbbalaa.Ta Go.Proofs.Ythjelilmlbbalaa.Tb Go.Proofs.Ythjelilmlbbalaa.Tf Go.Proofs.Ythjelilmlbbalaa.Rm Go.Proofs.Ythjelilmlbbalaa.Ra Go.Proofs.Ythjelilmlbbalaa.Ed Go.Proofs.Ythjelilmlbbalaa.An Go.Proofs.Ythjelilmlbbalaa.Aa Go.Proofs.Ythjelilmlbbalaa.Ar

/-- An edge's cells. -/
def cE (x : Eg) : List Value := [.int .i64 x.to, .bool x.free] ++ x.s.map (fun y => .int .u64 (y : Int))
def Ec (l : List Eg) : List Value := l.flatMap cE
structure egOk (x : Eg) : Prop where
  s : isSet x.s
  it : in64 x.to
theorem cE_four {x : Eg} (h : isSet x.s) : ∃ x0 x1 x2 x3 : Nat, x.s = [x0, x1, x2, x3] ∧ cE x = [.int .i64 x.to, .bool x.free, .int .u64 (x0 : Int), .int .u64 (x1 : Int), .int .u64 (x2 : Int), .int .u64 (x3 : Int)] := by
  obtain ⟨x0, x1, x2, x3, e⟩ := four_of h
  exact ⟨x0, x1, x2, x3, e, by unfold cE; rw [e]; rfl⟩
theorem cE_len {x : Eg} (h : isSet x.s) : (cE x).length = 6 := by
  obtain ⟨_, _, _, _, _, e⟩ := cE_four h
  rw [e]; rfl
theorem Ec_append (a b : List Eg) : Ec (a ++ b) = Ec a ++ Ec b := by simp [Ec]
theorem Ec_one (x : Eg) : Ec [x] = cE x := by simp [Ec]
theorem Ec_len : ∀ {l : List Eg}, (∀ x ∈ l, egOk x) → (Ec l).length = l.length * 6
  | [], _ => rfl
  | x :: l, h => by
    have h1 := Ec_len (l := l) (fun y hy => h y (by simp [hy]))
    have h2 := cE_len (h x (by simp)).s
    show (cE x ++ Ec l).length = _
    rw [List.length_append, h1, h2, List.length_cons]; omega
theorem Ec_get : ∀ {l : List Eg}, (∀ x ∈ l, egOk x) → ∀ {i : Nat} {x : Eg}, l[i]? = some x → ∀ {j : Nat} {v : Value}, (cE x)[j]? = some v → (Ec l)[i * 6 + j]? = some v
  | [], _, _, _, h, _, _, _ => by simp at h
  | y :: l, ho, 0, x, h, j, v, hv => by
    simp at h
    subst h
    have e : Ec (y :: l) = cE y ++ Ec l := rfl
    rw [e, Nat.zero_mul, Nat.zero_add, List.getElem?_append_left (List.getElem?_eq_some_iff.1 hv).1]
    exact hv
  | y :: l, ho, i + 1, x, h, j, v, hv => by
    rw [List.getElem?_cons_succ] at h
    have e : Ec (y :: l) = cE y ++ Ec l := rfl
    have h8 := cE_len (ho y (by simp)).s
    rw [e, List.getElem?_append_right (by omega), h8]
    have e2 : (i + 1) * 6 + j - 6 = i * 6 + j := by omega
    rw [e2]
    exact Ec_get (fun z hz => ho z (by simp [hz])) h hv
/-- A row of edges of the call's own. -/
def erow (w : World) (v : Value) (l : List Eg) : Prop := w.ownsRow 0 66 6 v l.length (Ec l)
theorem erow.le {w : World} {v : Value} {l : List Eg} (h : erow w v l) : ∃ A cap, v = .slice A l.length cap ∧ l.length ≤ cap := by
  rcases h.2 with ⟨rfl, h0⟩ | ⟨g, cap, _, rfl, _, _, hc, _⟩
  · exact ⟨none, 0, by rw [h0], by omega⟩
  · exact ⟨_, cap, rfl, hc⟩
theorem erow.eds {w : World} {A : Option Addr} {n cap : Nat} {l : List Eg} (h : erow w (.slice A n cap) l) (ho : ∀ x ∈ l, egOk x) : eds w A l := fun i x hi => by
  have hlt := (List.getElem?_eq_some_iff.1 hi).1
  rcases h.2 with ⟨e0, h0⟩ | ⟨g, c', cur, e1, hbl, hh, _⟩
  · omega
  · injection e1 with e1 _ _
    subst e1
    have hx := ho x (List.mem_of_getElem? hi)
    obtain ⟨x0, x1, x2, x3, hs, e⟩ := cE_four hx.s
    have cc : ∀ (j : Nat) (v : Value), (cE x)[j]? = some v → w.cell? ⟨g, 0 + i * 6 + j, none⟩ = some v := fun j v hv => by
      have := World.ownsRow.cells (g := g) h rfl (i * 6 + j) v (Ec_get ho hi hv)
      rw [show (⟨g, 0, none⟩ : Addr).add (i * 6 + j) = ⟨g, 0 + i * 6 + j, none⟩ by unfold Addr.add; split <;> simp_all] at this
      exact this
    refine ⟨g, 0, rfl, (World.ownsRow.lt h g rfl).2, hx.s, hx.it, cc 0 _ (by rw [e]; rfl), cc 1 _ (by rw [e]; rfl), fun k y hk => ?_⟩
    rw [show 0 + i * 6 + 2 + k = 0 + i * 6 + (2 + k) by omega]
    refine cc (2 + k) _ ?_
    have : (cE x)[2 + k]? = (x.s.map (fun y : Nat => Value.int .u64 (y : Int)))[k]? := by
      unfold cE
      rw [List.getElem?_append_right (by simp)]
      simp
    rw [this, List.getElem?_map, hk]
    rfl
/-- The blocks of an automaton that is being made; S: what it may write. -/
structure fa (w : World) (g : Nat) (S : Nat → Prop) (E : List (List Eg)) (F : Int) (R : List Int) (vE vR : Value) (rv : List Value) : Prop where
  b : Blk w g 28 #[vE, .int .i64 F, vR]
  e : vs w 0 61 vE rv
  r : ints w 0 3 vR R
  len : rv.length = E.length
  rows : ∀ (i : Nat) (v : Value) (l : List Eg), rv[i]? = some v → E[i]? = some l → erow w v l
  dis : ∀ (i j : Nat) (v u : Value) (q : Nat), rv[i]? = some v → rv[j]? = some u → v.ownBlock = some q → u.ownBlock = some q → i = j
  ok : ∀ l ∈ E, ∀ x ∈ l, egOk x
  sg : S g
  se : ∀ q, vE.ownBlock = some q → S q
  sr : ∀ q, vR.ownBlock = some q → S q
  ss : ∀ v ∈ rv, ∀ q, v.ownBlock = some q → S q
  F6 : in64 F
/-- An automaton that is being made. -/
def fA (w : World) (g : Nat) (S : Nat → Prop) (E : List (List Eg)) (F : Int) (R : List Int) : Prop := ∃ vE vR rv, fa w g S E F R vE vR rv
/-- Only it has changed; what it may write now it might before, or it is new. -/
def goes (S S' : Nat → Prop) (w w' : World) : Prop := Only S w w' ∧ ∀ i, S' i → S i ∨ w.heap.size ≤ i
theorem goes.refl (S : Nat → Prop) (w : World) : goes S S w w := ⟨Only.refl _ _, fun _ h => .inl h⟩
theorem goes.trans {S S' S'' : Nat → Prop} {a b c : World} (h : goes S S' a b) (k : goes S' S'' b c) : goes S S'' a c := by
  refine ⟨h.1.then k.1 (fun i hi hlt => ?_), fun i hi => ?_⟩
  · rcases h.2 i hi with h1 | h1
    · exact h1
    · omega
  · rcases k.2 i hi with h1 | h1
    · exact h.2 i h1
    · exact .inr (Nat.le_trans h.1.size h1)
/-- What it may not write stays. -/
theorem goes.not {S S' : Nat → Prop} {w w' : World} (h : goes S S' w w') {i : Nat} (hi : ¬ S i) (hlt : i < w.heap.size) : ¬ S' i := fun k => by
  rcases h.2 i k with h1 | h1
  · exact hi h1
  · omega
theorem goes.cell {S S' : Nat → Prop} {w w' : World} (h : goes S S' w w') {i j : Nat} (hi : ¬ S i) (hlt : i < w.heap.size) : w'.cell? ⟨i, j, none⟩ = w.cell? ⟨i, j, none⟩ := World.cell?_of_block (h.1.block i hlt hi)
section
variable {w w' : World} {g : Nat} {S : Nat → Prop} {E : List (List Eg)} {F : Int} {R : List Int} {vE vR : Value} {rv : List Value}
theorem fa.only {T : Nat → Prop} (h : fa w g S E F R vE vR rv) (k : Only T w w') (hT : ∀ i, S i → ¬ T i) : fa w' g S E F R vE vR rv where
  b := h.b.only k (hT _ h.sg)
  e := h.e.only k (fun i hi => hT _ (h.se i hi))
  r := h.r.only k (fun i hi => hT _ (h.sr i hi))
  len := h.len
  rows := fun i v l h1 h2 => own_only (h.rows i v l h1 h2) k (fun q hq => hT _ (h.ss v (List.mem_of_getElem? h1) q hq))
  dis := h.dis
  ok := h.ok
  sg := h.sg
  se := h.se
  sr := h.sr
  ss := h.ss
  F6 := h.F6
theorem fa.below (h : fa w g S E F R vE vR rv) (k : Below w.heap.size w w') : fa w' g S E F R vE vR rv := h.only (T := fun _ => False) (Only.of_below k) (fun _ _ e => e)
theorem fA.only {T : Nat → Prop} (h : fA w g S E F R) (k : Only T w w') (hT : ∀ i, S i → ¬ T i) : fA w' g S E F R := by
  obtain ⟨vE, vR, rv, h⟩ := h
  exact ⟨vE, vR, rv, h.only k hT⟩
theorem fA.below (h : fA w g S E F R) (k : Below w.heap.size w w') : fA w' g S E F R := h.only (T := fun _ => False) (Only.of_below k) (fun _ _ e => e)
theorem fa.mono {T : Nat → Prop} (h : fa w g S E F R vE vR rv) (hT : ∀ i, S i → T i) : fa w g T E F R vE vR rv :=
  { h with sg := hT _ h.sg, se := fun q hq => hT _ (h.se q hq), sr := fun q hq => hT _ (h.sr q hq), ss := fun v hv q hq => hT _ (h.ss v hv q hq) }
theorem fa.rowget (h : fa w g S E F R vE vR rv) {i : Nat} {l : List Eg} (hi : E[i]? = some l) : ∃ A c, rv[i]? = some (.slice A l.length c) ∧ l.length ≤ c ∧ erow w (.slice A l.length c) l := by
  have hlt := (List.getElem?_eq_some_iff.1 hi).1
  obtain ⟨v, hv⟩ : ∃ v, rv[i]? = some v := ⟨_, List.getElem?_eq_getElem (by rw [h.len]; exact hlt)⟩
  have hr := h.rows i v l hv hi
  obtain ⟨A, c, rfl, hc⟩ := hr.le
  exact ⟨A, c, hv, hc, hr⟩
/-- As an automaton that is read. -/
theorem fa.nfa {A1 A2 : Option Addr} {n1 n2 c1 c2 : Nat} (h : fa w g S E F R (.slice A1 n1 c1) (.slice A2 n2 c2) rv) : nfa w A1 A2 ⟨E, F, R⟩ where
  e := fun i l hi => by
    obtain ⟨A, c, hv, hc, hr⟩ := h.rowget hi
    obtain ⟨b, rfl, hb, hcell⟩ := h.e.cell hv
    exact ⟨b, 0, rfl, hb, A, c, by rw [Nat.zero_add]; exact hcell, hc, hr.eds (h.ok l (List.mem_of_getElem? hi))⟩
  r := fun i hi => by
    obtain ⟨b, off, e, hb, hcell⟩ := h.r.row i hi
    exact ⟨b, off, e, hb, hcell⟩
  i := h.F6
end
theorem infoEE : (Try.prog.info? 61).map (fun i => (i.zero, i.size, i.bytes)) = some (some (.slice none 0 0), 1, 24) := by kernel_rfl
theorem infoI : (Try.prog.info? 3).map (fun i => (i.zero, i.size, i.bytes)) = some (some (.int .i64 0), 1, 8) := by kernel_rfl
theorem infoE : (Try.prog.info? 66).map (fun i => (i.zero, i.size, i.bytes)) = some (some (.agg #[.int .i64 0, .bool false, .int .u64 0, .int .u64 0, .int .u64 0, .int .u64 0]), 6, 48) := by kernel_rfl
end Go.Proofs.Ythjelilmlbbalaa.Da
namespace Go.Proofs.Ythjelilmlbbalaa.Db
open Go.RowKit Go.Proofs.Ythjelilmlbbalaa.Vm Go.Proofs.Ythjelilmlbbalaa.Vo Go.Proofs.Ythjelilmlbbalaa.Bw Go.Proofs.Ythjelilmlbbalaa.Na Go.Proofs.Ythjelilmlbbalaa.Ko Go.Proofs.Ythjelilmlbbalaa.Tm Go.Proofs.Ythjelilmlbbalaa.Ta Go.Proofs.Ythjelilmlbbalaa.Tb Go.Proofs.Ythjelilmlbbalaa.Tf Go.Proofs.Ythjelilmlbbalaa.Rm Go.Proofs.Ythjelilmlbbalaa.Ra Go.Proofs.Ythjelilmlbbalaa.Ed Go.Proofs.Ythjelilmlbbalaa.An Go.Proofs.Ythjelilmlbbalaa.Aa Go.Proofs.Ythjelilmlbbalaa.Ar Go.Proofs.Ythjelilmlbbalaa.Da

theorem vs_of_ints {w : World} {base : Nat} {e : TypeId} {v : Value} {l : List Int} (h : ints w base e v l) : vs w base e v (Is l) := by
  unfold vs; rw [Is_length]; exact h
theorem ints_of_vs {w : World} {base : Nat} {e : TypeId} {v : Value} {l : List Int} {x : Int} (h : vs w base e v (Is l ++ [.int .i64 x])) : ints w base e v (l ++ [x]) := by
  have e1 : Is (l ++ [x]) = Is l ++ [.int .i64 x] := by rw [Is_append]; rfl
  unfold ints
  rw [e1, show (l ++ [x]).length = (Is l ++ [Value.int .i64 x]).length by simp [Is]]
  exact h
/-- A row of another type than the one that has changed stays. -/
theorem own_off {w w' : World} {base base' size size' n m : Nat} {e t : TypeId} {v u : Value} {xs ys : List Value} (h : w.ownsRow base e size v n xs) (k : w.ownsRow base' t size' u m ys) (hne : e ≠ t) (o : Only (fun i => u.ownBlock = some i) w w') : w'.ownsRow base e size v n xs := own_only h o (fun q hq hu => by
  rcases k.2 with ⟨rfl, _⟩ | ⟨g', cap, cur, rfl, _, hh, _⟩
  · cases hu
  · have hb : Blk w g' t cur := hh
    simp only [Value.ownBlock] at hu
    injection hu with hu
    subst hu
    exact own_apart h hb hne _ hq rfl)
/-- 'append(v, x)', x in a cell of its own: only the row's block has changed; where the row lies. -/
theorem wpList_vsP {t e : TypeId} (ht : Try.prog.underlying t = some (.slice e)) {z : Value} {by' : Nat} (hinf : (Try.prog.info? e).map (fun i => (i.zero, i.size, i.bytes)) = some (some z, 1, by')) (hz : z.cells.size = 1) (hby : by' ≤ 1000)
    {ops : Array Oper} {rest : List Oper} {o : Oper} {a : Act} {Q : Exit → Act → World → Prop} (hgd : o.guard = none) (s x : Operand)
    (ho : o.op = .call { callee := .builtin .append, args := #[s, x], argTypes := #[t, t] }) {w : World}
    {v : Value} {l : List Value} (hs : a.eval s = v) (hown : vs w 0 e v l) (c : Value) (hc : c.oneCell' = true) {m k N : Nat} (hm : m = 1) (hx : a.eval x = .slice (some ⟨N, 0, none⟩) m k) (hN : N = w.heap.size)
    (hlen : l.length ≤ 1000000000)
    (h : ∀ v' w', vs w' 0 e v' (l ++ [c]) → Only (fun i => v.ownBlock = some i) w w' → (∀ q, v'.ownBlock = some q → v.ownBlock = some q ∨ w.heap.size ≤ q) → wpList Try.prog ops Q rest (a.put o.dst v') w') : wpList Try.prog ops Q (o :: rest) a (w.alloc (.cells #[c] e)) := by
  subst hN
  obtain ⟨i0, hi, hz0, hz1, hz2⟩ := info_parts hinf
  have hmul : (l.length + 1) * by' ≤ (l.length + 1) * 1000 := Nat.mul_le_mul_left _ hby
  refine wpList_append_own_at _ hgd s x t ho 0 e i0 z 1 by' ht hi hz0 hz1 hz2 hz (by decide) v l.length l hs (World.ownsRow.alloc hown _) ⟨w.heap.size, 0, none⟩ m k [c] hx (by rw [hm]; rfl) (cell_one_new _ _ _) (by intro u hu; simp at hu; subst hu; exact hc) (by unfold maxLen; omega) (by rw [hm]; omega) (Nat.zero_le _) (fun v' w' h2 h3 _ h5 => h v' w' ?_ (((Only.refl _ w).alloc _).grown h3 (fun i hi _ => hi)) (fun q hq => ?_))
  · have : w'.ownsRow 0 e 1 v' (l ++ [c]).length (l ++ [c]) := by
      rw [List.length_append, show [c].length = m by rw [hm]; rfl]; exact h2
    exact this
  · rcases h5 with h5 | h5
    · exact .inl (h5 ▸ hq)
    · rw [h5] at hq
      injection hq with hq
      rw [size_alloc] at hq
      exact .inr (by omega)
/-- What a state more leaves. -/
theorem fa_state {w w4 w5 w6 w7 : World} {g : Nat} {S : Nat → Prop} {E : List (List Eg)} {F : Int} {R : List Int} {vE vR vE' vR' : Value} {rv : List Value} (h : fa w g S E F R vE vR rv)
    (h4 : vs w4 0 61 vE' (rv ++ [.slice none 0 0])) (o4 : Only (fun i => vE.ownBlock = some i) w w4) (p4 : ∀ q, vE'.ownBlock = some q → vE.ownBlock = some q ∨ w.heap.size ≤ q) (e5 : w5 = w4.setCell ⟨g, 0, none⟩ vE')
    (h6 : vs w6 0 3 vR' (Is R ++ [.int .i64 (-1)])) (o6 : Only (fun i => vR.ownBlock = some i) w5 w6) (p6 : ∀ q, vR'.ownBlock = some q → vR.ownBlock = some q ∨ w5.heap.size ≤ q) (e7 : w7 = w6.setCell ⟨g, 2, none⟩ vR') :
    ∃ S', fA w7 g S' (E ++ [[]]) F (R ++ [-1]) ∧ goes S S' w w7 := by
  have o5 : Only (fun i => i = g) w4 w5 := by rw [e5]; exact (Only.refl (fun i => i = g) w4).store (p := ⟨g, 0, none⟩) (.inl rfl) _
  have o7 : Only (fun i => i = g) w6 w7 := by rw [e7]; exact (Only.refl (fun i => i = g) w6).store (p := ⟨g, 2, none⟩) (.inl rfl) _
  have b4 : Blk w4 g 28 #[vE, .int .i64 F, vR] := h.b.only o4 (fun e => own_apart h.e h.b (by decide) g e rfl)
  have b5 : Blk w5 g 28 #[vE', .int .i64 F, vR] := by rw [e5]; exact b4.store 0 vE'
  have r5 : ints w5 0 3 vR R := own_only (own_off h.r h.e (by decide) o4) o5 (fun q hq e => own_apart h.r h.b (by decide) q hq e)
  have b6 : Blk w6 g 28 #[vE', .int .i64 F, vR] := b5.only o6 (fun e => own_apart r5 b5 (by decide) g e rfl)
  have b7 : Blk w7 g 28 #[vE', .int .i64 F, vR'] := by rw [e7]; exact b6.store 2 vR'
  have hE4 := h4.lo
  have e4b : ∀ q, vE'.ownBlock = some q → q ≠ g := own_apart h4 b4 (by decide)
  have h5 : vs w5 0 61 vE' (rv ++ [.slice none 0 0]) := h4.only o5 (fun q hq e => e4b q hq e)
  have h6' : vs w6 0 61 vE' (rv ++ [.slice none 0 0]) := own_off h5 r5 (by decide) o6
  have h7 : vs w7 0 61 vE' (rv ++ [.slice none 0 0]) := h6'.only o7 (fun q hq e => e4b q hq e)
  have r7 : ints w7 0 3 vR' (R ++ [-1]) := (ints_of_vs h6).only o7 (fun q hq e => own_apart (ints_of_vs h6) b6 (by decide) q hq e)
  have hrow : ∀ (v : Value) (l : List Eg), erow w v l → (∀ q, v.ownBlock = some q → S q) → erow w7 v l := fun v l hr hS => by
    have k1 : erow w4 v l := own_off hr h.e (by decide) o4
    have k2 : erow w5 v l := own_only k1 o5 (fun q hq e => own_apart k1 b4 (by decide) q hq e)
    have k3 : erow w6 v l := own_off k2 r5 (by decide) o6
    exact own_only k3 o7 (fun q hq e => own_apart k3 b6 (by decide) q hq e)
  have O4 : Only S w w4 := o4.mono (fun i hi => h.se i hi)
  have O7 : Only S w w7 := ((O4.trans (o5.mono (fun i hi => by rw [hi]; exact h.sg))).trans (o6.mono (fun i hi => h.sr i hi))).trans (o7.mono (fun i hi => by rw [hi]; exact h.sg))
  refine ⟨fun i => S i ∨ w.heap.size ≤ i, ⟨vE', vR', rv ++ [.slice none 0 0], b7, h7, r7, by simp [h.len], fun i v l h1 h2 => ?_, fun i j v u q h1 h2 h3 h4 => ?_, fun l hl x hx => ?_, .inl h.sg, fun q hq => ?_, fun q hq => ?_, fun v hv q hq => ?_, h.F6⟩, O7, fun i hi => hi⟩
  · by_cases hi : i < rv.length
    · rw [List.getElem?_append_left hi] at h1
      rw [List.getElem?_append_left (by rw [← h.len]; exact hi)] at h2
      exact hrow v l (h.rows i v l h1 h2) (fun q hq => h.ss v (List.mem_of_getElem? h1) q hq)
    · rw [List.getElem?_append_right (by omega)] at h1
      rw [List.getElem?_append_right (by rw [← h.len]; omega)] at h2
      have e1 := List.mem_singleton.1 (List.mem_of_getElem? h1)
      have e2 := List.mem_singleton.1 (List.mem_of_getElem? h2)
      subst e1; subst e2
      exact World.ownsRow_nil _ _ _ _
  · have hn : ∀ (k : Nat) (u : Value), (rv ++ [Value.slice none 0 0])[k]? = some u → u.ownBlock = some q → rv[k]? = some u := fun k u hk hu => by
      by_cases hi : k < rv.length
      · rw [List.getElem?_append_left hi] at hk; exact hk
      · rw [List.getElem?_append_right (by omega)] at hk
        have e1 := List.mem_singleton.1 (List.mem_of_getElem? hk)
        subst e1
        cases hu
    exact h.dis i j v u q (hn i v h1 h3) (hn j u h2 h4) h3 h4
  · rcases List.mem_append.1 hl with hl | hl
    · exact h.ok l hl x hx
    · rw [List.mem_singleton.1 hl] at hx; cases hx
  · exact (p4 q hq).elim (fun e => .inl (h.se q e)) .inr
  · exact (p6 q hq).elim (fun e => .inl (h.sr q e)) (fun e => .inr (Nat.le_trans (Nat.le_trans O4.size o5.size) e))
  · rcases List.mem_append.1 hv with hv | hv
    · exact .inl (h.ss v hv q hq)
    · rw [List.mem_singleton.1 hv] at hq; simp [Value.ownBlock] at hq
set_option maxHeartbeats 1000000 in
set_option maxRecDepth 100000 in
theorem state_any {w : World} {g : Nat} {S : Nat → Prop} {E : List (List Eg)} {F : Int} {R : List Int} (hE : E.length ≤ 100000) (hR : R.length = E.length) (H : Hid (fA w g S E F R)) :
    Calls Try.prog 28 #[.pointer (some ⟨g, 0, none⟩)] w fun e w' => e = .returned (.int .i64 (E.length : Int)) ∧ ∃ S', fA w' g S' (E ++ [[]]) F (R ++ [-1]) ∧ goes S S' w w' := by
  obtain ⟨vE, vR, rv, h⟩ := H.out
  obtain ⟨A1, c1, rfl, _⟩ := h.e.le
  obtain ⟨A2, c2, rfl, _⟩ := h.r.le
  have HH := Lib.hid h
  have HV1 := Lib.hid h.e
  have HLE1 : Hid (rv.length ≤ 1000000000) := Lib.hid (by have := h.len; omega)
  have HLR : Hid ((Is R).length ≤ 1000000000) := Lib.hid (by rw [Is_length]; omega)
  obtain ⟨K, hK⟩ : ∃ K, K = rv.length := ⟨_, rfl⟩
  obtain ⟨M, hM⟩ : ∃ M, M = R.length := ⟨_, rfl⟩
  have HK : Hid (E.length = K) := Lib.hid (by rw [hK, h.len])
  have hK5 : K ≤ 100000 := by rw [hK, h.len]; exact hE
  have HB := h.b
  rw [← hK, ← hM] at HB
  have d0 := HB.cell 0
  have f0 := HB.frozen 0
  have HKV := Lib.hid hK
  have HMV := Lib.hid hM
  rw [HK.out]
  clear h hE hR hK hM HB
  go_enter Try.func28, Try.ntmps28
  go_upto_region 2 with (at_builtin; refine wpList_vsP Try.underlying25 infoEE rfl (by decide) rfl _ _ rfl (by rw [HKV.out]; rfl) HV1.out (.slice none 0 0) rfl rfl (by rfl) rfl HLE1.out ?_; intro v4 w4 h4 o4 p4; obtain ⟨A4, c4, hv4⟩ : ∃ A4 c4, v4 = .slice A4 (K + 1) c4 := (by obtain ⟨A4, c4, e, _⟩ := h4.le; exact ⟨A4, c4, by rw [e, List.length_append, HKV.out]; rfl⟩); subst hv4; have b4 := HH.out.b.only o4 (fun e => own_apart HH.out.e HH.out.b (by decide) g e rfl); have e0 := b4.cell 0; have f40 := b4.frozen 0; have B4 := Lib.hid b4; have H4 := Lib.hid h4; have O4 := Lib.hid o4; have P4 := Lib.hid p4; clear h4 o4 p4 b4)
  obtain ⟨w5, hw5⟩ : ∃ w5, w5 = w4.setCell ⟨g, 0, none⟩ (.slice A4 (K + 1) c4) := ⟨_, rfl⟩
  have o5 : Only (fun i => i = g) w4 w5 := by rw [hw5]; exact (Only.refl (fun i => i = g) w4).store (p := ⟨g, 0, none⟩) (.inl rfl) _
  have b5 : Blk w5 g 28 #[.slice A4 (K + 1) c4, .int .i64 F, .slice A2 M c2] := by rw [hw5, HMV.out]; exact B4.out.store 0 _
  have R5 : Hid (ints w5 0 3 (.slice A2 M c2) R) := Lib.hid (by rw [HMV.out]; exact own_only (own_off HH.out.r HH.out.e (by decide) O4.out) o5 (fun q hq e => own_apart HH.out.r HH.out.b (by decide) q hq e))
  have B5 := Lib.hid b5
  have HW5 := Lib.hid hw5
  have d2 := b5.cell 2
  rw [← hw5]
  clear hw5 o5 b5 e0 f40 d0 f0
  go_wp2_with (at_builtin; refine wpList_vsP Try.underlying26 infoI rfl (by decide) rfl _ _ rfl (by rfl) (vs_of_ints R5.out) (.int .i64 (-1)) rfl rfl (by rfl) rfl HLR.out ?_; intro v6 w6 h6 o6 p6; obtain ⟨A6, c6, hv6⟩ : ∃ A6 c6, v6 = .slice A6 (M + 1) c6 := (by obtain ⟨A6, c6, e, _⟩ := h6.le; exact ⟨A6, c6, by rw [e, List.length_append, Is_length, HMV.out]; rfl⟩); subst hv6; have b6 := B5.out.only o6 (fun e => own_apart R5.out B5.out (by decide) g e rfl); have e0 := b6.cell 0; have e2 := b6.cell 2; have f62 := b6.frozen 2; have H6 := Lib.hid h6; have O6 := Lib.hid o6; have P6 := Lib.hid p6; clear h6 o6 p6 b6)
  go_ret
  refine ⟨rfl, ?_⟩
  exact fa_state HH.out H4.out O4.out P4.out HW5.out H6.out (by have := O6.out; rw [HMV.out] at this; exact this) (fun q hq => by have := P6.out q hq; rw [HMV.out] at this; exact this) rfl
end Go.Proofs.Ythjelilmlbbalaa.Db
namespace Go.Proofs.Ythjelilmlbbalaa.Ae
open Go.RowKit Go.Proofs.Ythjelilmlbbalaa.Bw Go.Proofs.Ythjelilmlbbalaa.Na Go.Proofs.Ythjelilmlbbalaa.Ko Go.Proofs.Ythjelilmlbbalaa.Tm Go.Proofs.Ythjelilmlbbalaa.Tb Go.Proofs.Ythjelilmlbbalaa.Te Go.Proofs.Ythjelilmlbbalaa.Tf Go.Proofs.Ythjelilmlbbalaa.Tj Go.Proofs.Ythjelilmlbbalaa.Rm Go.Proofs.Ythjelilmlbbalaa.Rs Go.Proofs.Ythjelilmlbbalaa.Ra Go.Proofs.Ythjelilmlbbalaa.Am Go.Proofs.Ythjelilmlbbalaa.An Go.Proofs.Ythjelilmlbbalaa.Ac Go.Proofs.Ythjelilmlbbalaa.Aa Go.Proofs.Ythjelilmlbbalaa.Aw Go.Proofs.Ythjelilmlbbalaa.Ax Go.Proofs.Ythjelilmlbbalaa.Ab Go.Proofs.Ythjelilmlbbalaa.Ad

/-- The rules of states. -/
def rul (A : Au) (P : Nat → Prop) (r : Nat) : Prop := ∃ q, P q ∧ A.R[q]? = some (r : Int)
/-- What Run answers. -/
def ansR (A : Au) (s : List Nat) (w : World) (e : Ending) (w' : World) : Prop := ∃ v C, e = .returned v ∧ ints w' w.heap.size 3 v C ∧ (okA A → isL C (rul A (runs A.E A.first.toNat s))) ∧ (¬ okA A → C = []) ∧ Below w.heap.size w w'
/-- The rules of the first so many states. -/
def rulTo (A : Au) (C : List Int) (i : Nat) (r : Nat) : Prop := ∃ a, a < i ∧ ∃ q : Nat, C[a]? = some (q : Int) ∧ A.R[q]? = some (r : Int)
theorem rul_no {A : Au} {C : List Int} {i q : Nat} {z : Int} (hq : C[i]? = some (q : Int)) (hz : A.R[q]? = some z) (h : z < 0) (r : Nat) : rulTo A C (i + 1) r ↔ rulTo A C i r := by
  unfold rulTo
  constructor
  · rintro ⟨a, ha, p, hp, hr⟩
    rcases (show a < i ∨ a = i by omega) with k | rfl
    · exact ⟨a, k, p, hp, hr⟩
    · rw [hq] at hp
      obtain rfl : q = p := by have := Option.some.inj hp; omega
      rw [hz] at hr
      have := Option.some.inj hr
      omega
  · rintro ⟨a, ha, h⟩
    exact ⟨a, by omega, h⟩
theorem rul_yes {A : Au} {C : List Int} {i q z : Nat} (hq : C[i]? = some (q : Int)) (hz : A.R[q]? = some (z : Int)) (r : Nat) : r = z ∨ rulTo A C i r ↔ rulTo A C (i + 1) r := by
  unfold rulTo
  constructor
  · rintro (rfl | ⟨a, ha, h⟩)
    · exact ⟨i, by omega, q, hq, hz⟩
    · exact ⟨a, by omega, h⟩
  · rintro ⟨a, ha, p, hp, hr⟩
    rcases (show a < i ∨ a = i by omega) with k | rfl
    · exact .inr ⟨a, k, p, hp, hr⟩
    · rw [hq] at hp
      obtain rfl : q = p := by have := Option.some.inj hp; omega
      rw [hz] at hr
      exact .inl (by have := Option.some.inj hr; omega)
theorem rul_all {A : Au} {C : List Int} {P : Nat → Prop} (h : isL C P) (r : Nat) : rulTo A C C.length r ↔ rul A P r := by
  unfold rulTo rul
  constructor
  · rintro ⟨a, _, q, hq, hr⟩
    exact ⟨q, (h.mem q).1 (List.mem_of_getElem? hq), hr⟩
  · rintro ⟨q, hq, hr⟩
    obtain ⟨a, ha⟩ := List.mem_iff_getElem?.1 ((h.mem q).2 hq)
    exact ⟨a, (List.getElem?_eq_some_iff.1 ha).1, q, ha, hr⟩
theorem row_first (w : World) (F : Int) : row (w.alloc (.cells #[.int .i64 F] 3)) (some ⟨w.heap.size, 0, none⟩) 1 (at0 [F]) := fun i hi => ⟨w.heap.size, 0, rfl, by rw [size_alloc]; omega, by
  have h := Blk.fresh w 3 #[.int .i64 F]
  match i, hi with
  | 0, _ => exact h.cell 0⟩
theorem nb_take {s : ByteArray} {k : Nat} (h : k < s.size) : (nb s.data.toList).take (k + 1) = (nb s.data.toList).take k ++ [(s[k]'h).toNat] := by
  have h1 : s.data.toList[k]? = some (s[k]'h) := by
    rw [Array.getElem?_toList]
    exact Array.getElem?_eq_getElem h
  rw [List.take_add_one]
  unfold nb
  rw [List.getElem?_map, h1]
  rfl
theorem nb_len (s : ByteArray) : (nb s.data.toList).length = s.size := by unfold nb; rw [List.length_map, Array.length_toList]; rfl
set_option maxHeartbeats 4000000 in
set_option maxRecDepth 100000 in
theorem rRun_any {A : Au} (hE : A.E.length ≤ 1000000) (hM : A.R.length ≤ 1000000) (hrow : ∀ l ∈ A.E, l.length ≤ 1000000) {A1 A2 : Option Addr} {c1 c2 : Nat} {s : ByteArray} (hs : s.size ≤ 1000000) {w : World} (H : Hid (nfa w A1 A2 A)) :
    Calls Try.prog 18 #[nv A1 A2 c1 c2 A, .string s] w fun e w' => ansR A (nb s.data.toList) w e w' := by
  have HRI : Hid (∀ u, nfa u A1 A2 A → Calls Try.prog 13 #[nv A1 A2 c1 c2 A] u fun e w' => ansB (okA A) u e w') := Lib.hid (fun u h => rRight_any hE hM hrow (Lib.hid h))
  have HPU : Hid (∀ (u : World) (B : Nat) (v : Value) (L : List Int) (n : Int), L.length ≤ 100000 → asc L → B ≤ u.heap.size → ints u B 3 v L → Calls Try.prog 40 #[v, .int .i64 n] u fun e w' => ∃ v', e = .returned v' ∧ ints w' B 3 v' (putQ L n) ∧ Below u.heap.size u w') := Lib.hid (fun u B v L n h1 h2 h3 h4 => put_any h1 h2 h3 (Lib.hid h4))
  have HCL : Hid (∀ (u : World) (Ad : Option Addr) (cd : Nat) (D : List Int), D.length ≤ 1000000 → nfa u A1 A2 A → row u Ad D.length (at0 D) → Calls Try.prog 21 #[nv A1 A2 c1 c2 A, .slice Ad D.length cd] u fun e w' => ansC A (fun q => (q : Int) ∈ D) u e w') := Lib.hid (fun u Ad cd D h1 h2 h3 => rClosure_any hE hM hrow h1 (Lib.hid h2) (Lib.hid h3))
  have HST : Hid (∀ (u : World) (Ad : Option Addr) (cd : Nat) (D : List Int) (c : Nat), c < 256 → D.length ≤ 1000000 → nfa u A1 A2 A → row u Ad D.length (at0 D) → Calls Try.prog 23 #[nv A1 A2 c1 c2 A, .slice Ad D.length cd, .int .u8 (c : Int)] u fun e w' => ansS A c (fun q => (q : Int) ∈ D) u e w') := Lib.hid (fun u Ad cd D c h0 h1 h2 h3 => rStep_any hE hM hrow h1 (Lib.hid h2) (Lib.hid h3) h0)
  unfold nv at HRI HCL HST ⊢
  obtain ⟨K, hK⟩ : ∃ K, K = A.E.length := ⟨_, rfl⟩
  obtain ⟨M, hMM⟩ : ∃ M, M = A.R.length := ⟨_, rfl⟩
  obtain ⟨F, hF⟩ : ∃ F, F = A.first := ⟨_, rfl⟩
  have HKE := Lib.hid hK
  have HME := Lib.hid hMM
  have HFE := Lib.hid hF
  rw [← hK] at hE
  rw [← hMM] at hM
  rw [← hK, ← hMM, ← hF] at HRI HCL HST ⊢
  obtain ⟨w1, hw1⟩ : ∃ w1, w1 = w.alloc (.cells #[.slice A1 K c1, .int .i64 F, .slice A2 M c2] 28) := ⟨_, rfl⟩
  have B1 : Hid (Below w.heap.size w w1) := Lib.hid (by rw [hw1]; exact below_alloc _ _)
  have K1 : Hid (Blk w1 w.heap.size 28 #[.slice A1 K c1, .int .i64 F, .slice A2 M c2]) := Lib.hid (by rw [hw1]; exact Blk.fresh _ _ _)
  have d0 : w1.cell? ⟨w.heap.size, 0, none⟩ = some (.slice A1 K c1) := K1.out.cell 0
  have d1 : w1.cell? ⟨w.heap.size, 1, none⟩ = some (.int .i64 F) := K1.out.cell 1
  have d2 : w1.cell? ⟨w.heap.size, 2, none⟩ = some (.slice A2 M c2) := K1.out.cell 2
  obtain ⟨SB, hSB⟩ : ∃ SB, SB = nb s.data.toList := ⟨_, rfl⟩
  have HSB := Lib.hid hSB
  rw [← hSB]
  clear hK hMM hF hrow hSB
  go_enter Try.func18, Try.ntmps18
  go_upto_region 1 with fail
  rw [← hw1]
  clear hw1
  go_wp2_with (go_at_call 13; refine (HRI.out _ (H.out.below B1.out)).mono ?_; rintro e w2 ⟨rb, rfl, hrb, k2⟩; have HRB := Lib.hid hrb; have B2 := Lib.hid (grows B1.out k2); have K2 := Lib.hid (K1.out.below k2); clear hrb k2 d0 d1 d2; have d0 := K2.out.cell 0; have d1 := K2.out.cell 1; have d2 := K2.out.cell 2; cases rb)
  · have HX : Hid (¬ okA A) := Lib.hid (fun k => by have := HRB.out.2 k; cases this)
    go_wp2
    go_ret
    exact ⟨_, [], rfl, ints_nil _ _ _, fun k => absurd k HX.out, fun _ => rfl, B2.out⟩
  · have HOK : Hid (okA A) := Lib.hid (HRB.out.1 (by simp))
    have HCC := Lib.hid (HCL.out (w2.alloc (.cells #[.int .i64 F] 3)) (some ⟨w2.heap.size, 0, none⟩) 1 [F] (by simp) (H.out.below (grows B2.out (below_alloc _ _))) (row_first w2 F))
    have HFB := Lib.hid (below_alloc w2 (.cells #[.int .i64 F] 3))
    go_wp2_with (go_at_call 21; refine HCC.out.mono ?_; rintro e w3 ⟨v3, C3, rfl, i3, q3, r3, k3⟩; have B3 := Lib.hid (grows B2.out (grows HFB.out k3)); have K3 := Lib.hid k3; have I3 := Lib.hid (ints_mono (grows B2.out HFB.out).size i3); have Q3 := Lib.hid q3; obtain ⟨A3, c3, hv3⟩ := i3.form; subst hv3; clear i3 q3 r3 k3)
    clear d0 d1 d2
    have HEB : Hid (∀ c p q, byE A.E c p q → q < A.E.length) := Lib.hid (okA.byte HOK.out)
    obtain ⟨f, hf⟩ := Int.eq_ofNat_of_zero_le (show 0 ≤ F by rw [HFE.out]; exact HOK.out.f0)
    have HFN : Hid (A.first.toNat = f) := Lib.hid (by rw [← HFE.out, hf]; rfl)
    have HIN : Hid (isL C3 (runs A.E f [])) := Lib.hid ((Q3.out HOK.out).congr (fun q => by
      show clo A.E _ q ↔ clo A.E _ q
      unfold clo
      have e : ∀ p : Nat, ((p : Int) ∈ [F]) ↔ p = f := fun p => by rw [hf]; simp; omega
      exact ⟨fun ⟨p, h, k⟩ => ⟨p, (e p).1 h, k⟩, fun ⟨p, h, k⟩ => ⟨p, (e p).2 h, k⟩⟩))
    have HRL : Hid (∀ (t : List Nat) q, runs A.E f t q → q < A.E.length) := Lib.hid (fun t q h => by
      rcases List.eq_nil_or_concat t with rfl | ⟨t', c, rfl⟩
      · exact clo_lt (okA.free HOK.out) h
      · rw [List.concat_eq_append, runs_snoc] at h
        exact clo_lt (okA.free HOK.out) h)
    clear hf
    go_wp2
    go_loopw [5, 6] (fun s5 s6 wr => ∃ (k : Nat) (v : Value) (C : List Int), s5 = v ∧ s6 = .int .i64 (k : Int) ∧ k ≤ s.size ∧ Hid (ints wr w.heap.size 3 v C) ∧ Hid (isL C (runs A.E f (SB.take k))) ∧ Hid (Below w.heap.size w wr) ∧ Hid (Below w2.heap.size w2 wr)) (fun _ s6 _ => s.size - (intOf s6).toNat)
    case atStart => exact ⟨0, _, C3, rfl, rfl, by omega, I3, HIN, B3, Lib.hid (grows HFB.out K3.out)⟩
    case round =>
      obtain ⟨k, v, C, rfl, rfl, hk, HI, HC, HB, HG⟩ := hrel
      obtain ⟨A5, c5, hv⟩ := HI.out.form
      subst hv
      have hCL : C.length ≤ 1000000 := by
        have := HC.out.len (n := K) (fun q h => by rw [HKE.out]; exact HRL.out _ q h)
        omega
      have HCN := Lib.hid hCL
      have d0 := (K2.out.below HG.out).cell 0
      have d1 := (K2.out.below HG.out).cell 1
      have d2 := (K2.out.below HG.out).cell 2
      clear hCL
      by_cases hks : k < s.size
      · have hks' : (k : Int) < (s.size : Int) := by omega
        have hk0 : (0 : Int) ≤ (k : Int) := by omega
        have HKS := Lib.hid hks
        obtain ⟨x, hx, HXX⟩ : ∃ x : UInt8, s[k]'hks = x ∧ Hid (s[k]'hks = x) := ⟨_, rfl, Lib.hid rfl⟩
        have HSN : Hid (SB.take (k + 1) = SB.take k ++ [x.toNat]) := Lib.hid (by rw [HSB.out, nb_take hks, hx])
        have HCS := Lib.hid (fun (u : World) (h1 : Below wr.heap.size wr u) => HST.out u A5 c5 C x.toNat x.toNat_lt HCN.out (H.out.below (grows HB.out h1)) (HI.out.below h1).row)
        go_wp2_with fail
        go_still_tail 5, (by kernel_rfl)
        go_wp2_with (go_at_call 23; refine (HCS.out _ (below_draws wr 1)).mono ?_; rintro e w5 ⟨v5, D5, rfl, i5, q5, r5, k5⟩; have HG5 := Lib.hid (show Below wr.heap.size wr w5 from grows (below_draws wr 1) k5); have I5 := Lib.hid (ints_mono (show w.heap.size ≤ wr.drew.heap.size from HB.out.size) i5); have Q5 := Lib.hid q5; obtain ⟨A6, c6, hv6⟩ := i5.form; subst hv6; clear i5 q5 r5 k5)
        go_roundw
        case rel => exact ⟨k + 1, _, D5, rfl, by go_num, by have := HKS.out; omega, I5, Lib.hid ((Q5.out HOK.out).congr (fun q => by
          rw [HSN.out, runs_snoc]
          unfold stp clo
          have e : ∀ p : Nat, (p : Int) ∈ C ↔ runs A.E f (SB.take k) p := fun p => HC.out.mem p
          exact ⟨fun ⟨p, ⟨a, h1, h2⟩, h⟩ => ⟨p, ⟨a, (e a).1 h1, h2⟩, h⟩, fun ⟨p, ⟨a, h1, h2⟩, h⟩ => ⟨p, ⟨a, (e a).2 h1, h2⟩, h⟩⟩)), Lib.hid (grows HB.out HG5.out), Lib.hid (grows HG.out HG5.out)⟩
        case measure => have := HKS.out; simp [intOf]; omega
      · have hks' : ¬ (k : Int) < (s.size : Int) := by omega
        have HC9 : Hid (isL C (runs A.E f SB)) := Lib.hid (by
          have h := HC.out
          rw [List.take_of_length_le (by rw [HSB.out, nb_len]; omega)] at h
          exact h)
        have HRW := Lib.hid HI.out.row
        obtain ⟨N, hN⟩ : ∃ N, N = C.length := ⟨_, rfl⟩
        have HN := Lib.hid hN
        have hNb : N ≤ 1000000 := by rw [hN]; exact HCN.out
        rw [← hN]
        clear hks d0 d1 d2 hN hk
        go_wp2
        go_loopw [7, 8] (fun s7 s8 wz => ∃ (i : Nat) (v : Value) (D : List Int), s7 = v ∧ s8 = .int .i64 (i : Int) ∧ i ≤ N ∧ Hid (ints wz w.heap.size 3 v D) ∧ Hid (isL D (rulTo A C i)) ∧ Hid (Below wr.heap.size wr wz)) (fun _ s8 _ => N - (intOf s8).toNat)
        case atStart => exact ⟨0, _, [], rfl, rfl, by omega, Lib.hid (ints_nil _ _ _), Lib.hid (isL_nil.congr (fun q => ⟨False.elim, fun h => by obtain ⟨a, ha, _⟩ := h; omega⟩)), Lib.hid (Below.refl _ _)⟩
        case round =>
          obtain ⟨i, v, D, rfl, rfl, hi, HJ, HD, HE⟩ := hrel
          obtain ⟨A7, c7, hv⟩ := HJ.out.form
          subst hv
          by_cases hin : i < N
          · have hin' : (i : Int) < (N : Int) := by omega
            have hi0 : (0 : Int) ≤ (i : Int) := by omega
            have HIN := Lib.hid hin
            obtain ⟨p, hp⟩ : ∃ p : Nat, C[i]? = some (p : Int) := by
              have h1 := at_get (l := C) (i := i) (by rw [← HN.out]; exact hin)
              obtain ⟨q, hq, _⟩ := (HC9.out.m _).1 (List.mem_of_getElem? h1)
              exact ⟨q, by rw [h1, hq]⟩
            have HPI := Lib.hid hp
            have hpK : p < M := by
              have h1 := HRL.out SB p ((HC9.out.mem p).1 (List.mem_of_getElem? hp))
              have h2 := HOK.out.rl
              have h3 := HME.out
              omega
            have hpK' : (p : Int) < (M : Int) := by omega
            have hp0 : (0 : Int) ≤ (p : Int) := by omega
            have HBI := Lib.hid (grows HB.out HE.out)
            obtain ⟨b1, o1, rfl, hb1, hr⟩ := (H.out.r.below HBI.out) p (by rw [← HME.out]; exact hpK)
            obtain ⟨r, hre⟩ : ∃ r, r = at0 A.R p := ⟨_, rfl⟩
            rw [← hre] at hr
            have HRP : Hid (A.R[p]? = some r) := Lib.hid (by rw [hre]; exact at0_get (by rw [← HME.out]; exact hpK))
            obtain ⟨b2, o2, rfl, hb2, hnw⟩ := (HRW.out.below HE.out) i (by rw [← HN.out]; exact hin)
            have hat : at' C i = (p : Int) := by
              have h1 := at_get (l := C) (i := i) (by rw [← HN.out]; exact hin)
              rw [hp] at h1
              exact (Option.some.inj h1).symm
            rw [hat] at hnw
            have d2 := (K2.out.below (grows HG.out HE.out)).cell 2
            have hr31 := HOK.out.r r (List.mem_of_getElem? HRP.out)
            have hDL : D.length ≤ 100000 := by
              have := HD.out.len (n := 32) (fun q h => by
                obtain ⟨a, _, q', _, hr'⟩ := h
                have := HOK.out.r _ (List.mem_of_getElem? hr')
                omega)
              omega
            have HDL := Lib.hid hDL
            have HCR : Hid (∀ u, Below wr.heap.size wr u → u.cell? ⟨w.heap.size, 2, none⟩ = some (.slice (some ⟨b1, o1, none⟩) M c2) ∧ u.cell? ⟨b1, o1 + p, none⟩ = some (.int .i64 r) ∧ u.cell? ⟨b2, o2 + i, none⟩ = some (.int .i64 (p : Int))) := Lib.hid (fun u ku => ⟨(K2.out.below (grows (grows HG.out HE.out) ku)).cell 2, (ku.cell (p := ⟨b1, o1 + p, none⟩) hb1).trans hr, (ku.cell (p := ⟨b2, o2 + i, none⟩) hb2).trans hnw⟩)
            clear hp hpK hre hat hb1 hb2 hin hDL
            by_cases hr0 : 0 ≤ r
            · obtain ⟨y, rfl⟩ := Int.eq_ofNat_of_zero_le hr0
              have HNX : Hid (isL (putQ D (y : Int)) (rulTo A C (i + 1))) := Lib.hid ((HD.out.put y).congr (fun q => rul_yes HPI.out HRP.out q))
              have HPP := Lib.hid (fun (u : World) (h1 : w.heap.size ≤ u.heap.size) (h2 : ints u w.heap.size 3 (.slice A7 D.length c7) D) => HPU.out u w.heap.size _ D (y : Int) HDL.out HD.out.a h1 h2)
              go_wp2
              go_quiet (fail)
              obtain ⟨w5, hw5⟩ : ∃ w5, w5 = wr.drewN nq := ⟨_, rfl⟩
              have HG5 : Hid (Below wr.heap.size wr w5) := Lib.hid (by rw [hw5]; exact below_draws _ _)
              rw [← hw5]
              clear hw5 d2 hr hnw
              obtain ⟨d2, hr, hnw⟩ := HCR.out w5 HG5.out
              go_wp2_with fail
              go_still_tail 9, (by kernel_rfl)
              go_wp2_with (go_at_call 40; refine (HPP.out _ (show w.heap.size ≤ w5.drew.heap.size from Nat.le_trans HBI.out.size HG5.out.size) ((HJ.out.below HG5.out).draws 1)).mono ?_; rintro e w6 ⟨v6, rfl, i6, k6⟩; have I6 := Lib.hid i6; have K6 := Lib.hid (show Below _ _ w6 from grows (grows HE.out HG5.out) (grows (below_draws w5 1) k6)); obtain ⟨A6, c6, hv6⟩ := i6.form; subst hv6; clear i6 k6)
              go_roundw
              case rel => exact ⟨i + 1, _, _, rfl, by go_num, by have := HIN.out; omega, I6, HNX, K6⟩
              case measure => have := HIN.out; simp [intOf]; omega
            · have HNX : Hid (isL D (rulTo A C (i + 1))) := Lib.hid (HD.out.congr (fun q => (rul_no HPI.out HRP.out (by omega) q).symm))
              go_wp2
              go_quiet (fail)
              go_wp2
              go_roundw
              case rel => exact ⟨i + 1, _, _, rfl, by go_num, by have := HIN.out; omega, Lib.hid (HJ.out.draws _), HNX, Lib.hid (below_drews HE.out _)⟩
              case measure => have := HIN.out; simp [intOf]; omega
          · have hin' : ¬ (i : Int) < (N : Int) := by omega
            have HIE : Hid (i = C.length) := Lib.hid (by have := HN.out; omega)
            have HR : Hid (isL D (rul A (runs A.E A.first.toNat SB))) := Lib.hid (HD.out.congr (fun q => by rw [HIE.out, rul_all HC9.out, HFN.out]))
            have HBF := Lib.hid (grows HB.out HE.out)
            clear hin
            go_wp2
            go_ret
            exact ⟨_, D, rfl, HJ.out, fun _ => HR.out, fun k => absurd HOK.out k, HBF.out⟩
end Go.Proofs.Ythjelilmlbbalaa.Ae
namespace Go.Proofs.Ythjelilmlbbalaa.Dn
open Go.Proofs.Ythjelilmlbbalaa.Tm Go.Proofs.Ythjelilmlbbalaa.Rm Go.Proofs.Ythjelilmlbbalaa.Rv Go.Proofs.Ythjelilmlbbalaa.Am Go.Proofs.Ythjelilmlbbalaa.An Go.Proofs.Ythjelilmlbbalaa.Af Go.Proofs.Ythjelilmlbbalaa.Ah Go.Proofs.Ythjelilmlbbalaa.Ai Go.Proofs.Ythjelilmlbbalaa.Ap Go.Proofs.Ythjelilmlbbalaa.Dm Go.Proofs.Ythjelilmlbbalaa.Ae

theorem pt_none (E : List (List Eg)) : pt (fun _ _ _ => False) 2 E ⟨E ++ [[], []], E.length, E.length + 1⟩ := by
  have h2 := two_len E
  refine ⟨⟨fun _ _ _ => False, fun x y k => ?_, part_none _ _ (by show E.length ≠ E.length + 1; omega) (by show E.length ≤ E.length ∧ E.length < (E ++ [[], []]).length ∧ E.length ≤ E.length + 1 ∧ E.length + 1 < (E ++ [[], []]).length; rw [h2]; omega), fun _ _ _ h => h.elim⟩, by show E.length ≠ E.length + 1; omega, h2, okS_two⟩
  show ofE (E ++ [[], []]) x y k ↔ _
  rw [two_ofE]
  unfold uni
  exact ⟨.inl, fun h => h.elim id False.elim⟩
mutual
theorem bT_pt : ∀ t : T, okT t → ∀ E, pt (fun s p q => Am.mt s t p q) (szU t) E (bT t E)
  | .set a, h, E => by
    unfold okT at h
    unfold bT szU
    exact (pt_set a h.1 E).congr (fun s p q => by unfold Am.mt; exact Iff.rfl)
  | .emp, _, E => by
    unfold bT szU
    exact (pt_emp E).congr (fun s p q => by unfold Am.mt; exact Iff.rfl)
  | .cat l, h, E => by
    unfold okT at h
    unfold bT szU
    exact (bC_pt l h.2 h.1 E).congr (fun s p q => by simp only [Am.mt])
  | .alt l, h, E => by
    unfold okT at h
    unfold bT szU
    refine (bA_pt l h.2 E _ _ _ _ _ (pt_none E)).congr (fun s p q => ?_)
    simp only [Am.mt]
    exact ⟨fun h => h.elim False.elim id, .inr⟩
  | .star t, h, E => by
    unfold okT at h
    unfold bT szU
    have k := pt_rep (lo := 0) (hi := -1) (.inl rfl) (fun E => bT_pt t h E) E
    rw [show cps 0 (-1) * szU t = szU t by unfold cps; rw [if_pos (by omega)]; simp] at k
    refine k.congr (fun s p q => ?_)
    simp only [Am.mt]
    rw [RT.iter]
    exact ⟨fun ⟨k, _, _, d⟩ => ⟨k, d⟩, fun ⟨k, d⟩ => ⟨k, by omega, .inl (by omega), d⟩⟩
  | .plus t, h, E => by
    unfold okT at h
    unfold bT szU
    have k := pt_rep (lo := 1) (hi := -1) (.inl rfl) (fun E => bT_pt t h E) E
    rw [show cps 1 (-1) * szU t = szU t by unfold cps; rw [if_pos (by omega)]; simp] at k
    refine k.congr (fun s p q => ?_)
    simp only [Am.mt]
    constructor
    · rintro ⟨k, h1, _, d⟩
      obtain ⟨k, rfl⟩ : ∃ j, k = j + 1 := ⟨k - 1, by omega⟩
      obtain ⟨m, d1, d2⟩ := d
      exact ⟨m, d1, RT.iter.2 ⟨k, d2⟩⟩
    · rintro ⟨m, d1, d2⟩
      obtain ⟨k, d2⟩ := RT.iter.1 d2
      exact ⟨k + 1, by omega, .inl (by omega), m, d1, d2⟩
  | .opt t, h, E => by
    unfold okT at h
    unfold bT szU
    have k := pt_rep (lo := 0) (hi := 1) (.inr (by omega)) (fun E => bT_pt t h E) E
    rw [show cps 0 1 * szU t = szU t by unfold cps; rw [if_neg (by omega)]; simp] at k
    refine k.congr (fun s p q => ?_)
    simp only [Am.mt]
    constructor
    · rintro ⟨k, _, h1, d⟩
      rcases (show k = 0 ∨ k = 1 by omega) with rfl | rfl
      · exact .inl d
      · obtain ⟨m, d1, rfl⟩ := d
        exact .inr d1
    · rintro (rfl | d)
      · exact ⟨0, by omega, .inr (by omega), rfl⟩
      · exact ⟨1, by omega, .inr (by omega), q, d, rfl⟩
  | .rep lo hi t, h, E => by
    unfold okT at h
    unfold bT szU
    refine (pt_rep (lo := lo) (hi := hi) (h.2.1.elim .inl (fun h => .inr h.1)) (fun E => bT_pt t h.2.2 E) E).congr (fun s p q => ?_)
    simp only [Am.mt]
    exact Iff.rfl
theorem bC_pt : ∀ l : List T, okTs l → 2 ≤ l.length → ∀ E, pt (fun s p q => mtC s l p q) (szUs l) E (bC l E)
  | [], _, h, _ => absurd h (by simp)
  | t :: l, h, _, E => by
    unfold okTs at h
    unfold bC szUs
    refine (bCs_pt l h.2 _ _ _ _ (bT_pt t h.1 E)).congr (fun s p q => ?_)
    simp only [mtC]
theorem bCs_pt : ∀ l : List T, okTs l → ∀ (E : List (List Eg)) (r : List Nat → Nat → Nat → Prop) (n : Nat) (b : Bd), pt r n E b → pt (fun s p q => ∃ m, r s p m ∧ mtC s l m q) (n + szUs l) E ⟨(bCs l b.E b.o).1, b.i, (bCs l b.E b.o).2⟩
  | [], _, E, r, n, b, hb => by
    unfold bCs szUs
    exact hb.congr (fun s p q => by simp only [mtC]; exact ⟨fun h => ⟨q, h, rfl⟩, fun ⟨m, h, e⟩ => by rw [← e]; exact h⟩)
  | t :: l, h, E, r, n, b, hb => by
    unfold okTs at h
    unfold bCs szUs
    have k := bCs_pt l h.2 E _ _ _ (pt_behind hb (bT_pt t h.1 b.E))
    rw [Nat.add_assoc] at k
    refine k.congr (fun s p q => ?_)
    simp only [mtC]
    constructor
    · rintro ⟨x, ⟨m, a, b⟩, c⟩
      exact ⟨m, a, x, b, c⟩
    · rintro ⟨m, a, x, b, c⟩
      exact ⟨x, ⟨m, a, b⟩, c⟩
theorem bA_pt : ∀ l : List T, okTs l → ∀ (E : List (List Eg)) (r : List Nat → Nat → Nat → Prop) (n : Nat) (E1 : List (List Eg)) (i o : Nat), pt r n E ⟨E1, i, o⟩ → pt (fun s p q => r s p q ∨ mtA s l p q) (n + szUs l) E ⟨bA l i o E1, i, o⟩
  | [], _, E, r, n, E1, i, o, hb => by
    unfold bA szUs
    exact hb.congr (fun s p q => by simp only [mtA]; exact ⟨.inl, fun h => h.elim id False.elim⟩)
  | t :: l, h, E, r, n, E1, i, o, hb => by
    unfold okTs at h
    unfold bA szUs
    have k := bA_pt l h.2 E _ _ _ _ _ (pt_beside hb (bT_pt t h.1 E1))
    rw [Nat.add_assoc] at k
    refine k.congr (fun s p q => ?_)
    simp only [mtA]
    exact or_assoc
end
/-- What comes of trees: edges and rules. -/
structure Mk where
  E : List (List Eg)
  R : List Int
def mkS (m : Mk) (t : T) (i : Nat) : Mk := let b := bT t m.E
  ⟨fr b.E 0 b.i, (m.R ++ List.replicate (b.E.length - m.E.length) (-1)).set b.o (i : Int)⟩
def mkQ (ts : List T) : Nat → Mk
  | 0 => ⟨[[]], [-1]⟩
  | i + 1 => match ts[i]? with
    | some t => mkS (mkQ ts i) t i
    | none => mkQ ts i
theorem mkQ_next {ts : List T} {i : Nat} {t : T} (h : ts[i]? = some t) : mkQ ts (i + 1) = mkS (mkQ ts i) t i := by
  rw [mkQ, h]
/-- What holds of what has come of the first so many trees. -/
structure mkI (ts : List T) (i : Nat) (m : Mk) (o : Nat → Nat) : Prop where
  rl : m.R.length = m.E.length
  len : m.E.length = 1 + ((ts.take i).map szU).sum
  ok : okS m.E
  root : root (ofE m.E) 0 m.E.length 0
  out : ∀ j t, j < i → ts[j]? = some t → o j < m.E.length ∧ m.R[o j]? = some (j : Int) ∧ ∀ s p q, fms (ofE m.E) s (0, p) (o j, q) ↔ Am.mt s t p q
  rul : ∀ (q : Nat) (z : Int), m.R[q]? = some z → z = -1 ∨ ∃ j, j < i ∧ z = (j : Int) ∧ q = o j
theorem mkI_start (ts : List T) (o : Nat → Nat) : mkI ts 0 ⟨[[]], [-1]⟩ o where
  rl := rfl
  len := rfl
  ok := fun l hl e he => by
    obtain rfl := List.mem_singleton.1 hl
    cases he
  root := by
    have h : (ofE [[]] : Fs) = fun _ _ _ => False := by
      funext x y k
      apply propext
      refine ⟨?_, False.elim⟩
      rintro ⟨l, e, h1, h2, _⟩
      obtain rfl := List.mem_singleton.1 (List.mem_of_getElem? h1)
      cases h2
    show Ai.root (ofE [[]]) 0 1 0
    rw [h]
    exact root_start 0 (by omega)
  out := fun j t h => absurd h (by omega)
  rul := fun q z h => .inl (by
    have := List.mem_of_getElem? h
    simpa using this)
theorem fs_ext {F G : Fs} (h : ∀ x y k, F x y k ↔ G x y k) : F = G := by
  funext x y k
  exact propext (h x y k)
theorem mkI_next {ts : List T} {i : Nat} {m : Mk} {o : Nat → Nat} (h : mkI ts i m o) {t : T} (ht : ts[i]? = some t) (hok : okT t) : mkI ts (i + 1) (mkS m t i) (fun j => if j = i then (bT t m.E).o else o j) := by
  have P := bT_pt t hok m.E
  obtain ⟨b, hb⟩ : ∃ b, b = bT t m.E := ⟨_, rfl⟩
  unfold mkS
  rw [← hb] at P ⊢
  dsimp only
  have pb := P.bd
  have plen := P.len
  obtain ⟨F, h1, p, h2⟩ := P.F
  have hl : (fr b.E 0 b.i).length = b.E.length := fr_len _ _ _
  have e : ofE (fr b.E 0 b.i) = uni (uni (ofE m.E) F) (edg 0 b.i none) := fs_ext (fun x y k => (fr_ofE (by omega) x y k).trans (or_congr (h1 x y k) Iff.rfl))
  obtain ⟨r1, r2, r3⟩ := root_add (lo := 0) (hi := b.E.length) h.root p (.inl (Nat.le_refl _)) ⟨Nat.le_refl _, by omega⟩ ⟨by omega, Nat.le_refl _⟩
  have hRl : (m.R ++ List.replicate (b.E.length - m.E.length) (-1 : Int)).length = b.E.length := by rw [List.length_append, List.length_replicate, h.rl]; omega
  have hold : ∀ q : Nat, q < m.E.length → ((m.R ++ List.replicate (b.E.length - m.E.length) (-1 : Int)).set b.o (i : Int))[q]? = m.R[q]? := fun q hq => by
    rw [List.getElem?_set_ne (by omega), List.getElem?_append_left (by rw [h.rl]; exact hq)]
  refine ⟨by show (List.set _ _ _).length = (fr _ _ _).length; rw [List.length_set, hRl, hl], ?_, okS_fr (P.q h.ok) pb.1.2, by show Ai.root (ofE (fr _ _ _)) 0 (fr _ _ _).length 0; rw [e, hl]; exact r1, fun j u hj hu => ?_, fun q z hq => ?_⟩
  · show (fr _ _ _).length = _
    rw [hl, plen, h.len, List.take_add_one, ht]
    simp
    omega
  · dsimp only
    rw [hl, e]
    by_cases hji : j = i
    · subst hji
      rw [if_pos rfl]
      rw [ht] at hu
      obtain rfl := Option.some.inj hu
      exact ⟨pb.2.2, by rw [List.getElem?_set_self (by rw [hRl]; exact pb.2.2)], r3⟩
    · rw [if_neg hji]
      obtain ⟨o1, o2, o3⟩ := h.out j u (by omega) hu
      exact ⟨by omega, by rw [hold _ o1]; exact o2, fun s p q => (r2 s p _ q (Nat.zero_le _) o1).trans (o3 s p q)⟩
  · dsimp only at hq ⊢
    by_cases hqo : q = b.o
    · subst hqo
      rw [List.getElem?_set_self (by rw [hRl]; exact pb.2.2)] at hq
      exact .inr ⟨i, by omega, (Option.some.inj hq).symm, by rw [if_pos rfl]⟩
    · rw [List.getElem?_set_ne (fun e => hqo e.symm)] at hq
      rcases Nat.lt_or_ge q m.R.length with hlt | hge
      · rw [List.getElem?_append_left hlt] at hq
        rcases h.rul q z hq with h0 | ⟨j, a, b, c⟩
        · exact .inl h0
        · exact .inr ⟨j, by omega, b, by rw [if_neg (by omega)]; exact c⟩
      · rw [List.getElem?_append_right hge] at hq
        exact .inl (List.eq_of_mem_replicate (List.mem_of_getElem? hq))
theorem mkQ_inv {ts : List T} (hok : ∀ t ∈ ts, okT t) : ∀ i, i ≤ ts.length → ∃ o, mkI ts i (mkQ ts i) o
  | 0, _ => ⟨fun _ => 0, mkI_start ts _⟩
  | i + 1, h => by
    obtain ⟨o, k⟩ := mkQ_inv hok i (by omega)
    obtain ⟨t, ht⟩ : ∃ t, ts[i]? = some t := ⟨_, List.getElem?_eq_getElem (by omega)⟩
    rw [mkQ_next ht]
    exact ⟨_, mkI_next k ht (hok t (List.mem_of_getElem? ht))⟩
/-- The whole automaton. -/
def auQ (ts : List T) : Au := ⟨(mkQ ts ts.length).E, 0, (mkQ ts ts.length).R⟩
theorem auQ_len {ts : List T} (hok : ∀ t ∈ ts, okT t) : (auQ ts).E.length = 1 + (ts.map szU).sum ∧ (auQ ts).R.length = (auQ ts).E.length := by
  obtain ⟨o, h⟩ := mkQ_inv hok ts.length (Nat.le_refl _)
  have := h.len
  rw [List.take_length] at this
  exact ⟨this, h.rl⟩
theorem auQ_ok {ts : List T} (hok : ∀ t ∈ ts, okT t) (h32 : ts.length ≤ 32) (h3 : 1 + (ts.map szU).sum ≤ 3000) : okA (auQ ts) := by
  obtain ⟨o, h⟩ := mkQ_inv hok ts.length (Nat.le_refl _)
  have hl := auQ_len hok
  refine ⟨by rw [hl.1]; omega, by rw [hl.1]; exact h3, hl.2, by show (0 : Int) ≤ 0; omega, by rw [hl.1]; show (0 : Int) < _; omega, fun x hx => ?_, fun l hl e he => (h.ok l hl e he).1⟩
  obtain ⟨q, hq⟩ := List.mem_iff_getElem?.1 hx
  rcases h.rul q x hq with rfl | ⟨j, a, rfl, _⟩
  · omega
  · omega
theorem auQ_rul {ts : List T} (hok : ∀ t ∈ ts, okT t) (s : List Nat) (r : Nat) : rul (auQ ts) (runs (auQ ts).E (auQ ts).first.toNat s) r ↔ ∃ t, ts[r]? = some t ∧ Am.mt s t 0 s.length := by
  obtain ⟨o, h⟩ := mkQ_inv hok ts.length (Nat.le_refl _)
  have hr := h.root
  have hrun : ∀ q, runs (auQ ts).E (auQ ts).first.toNat s q ↔ fms (ofE (auQ ts).E) s (0, 0) (q, s.length) := fun q => by
    show runs (mkQ ts ts.length).E 0 s q ↔ fms (ofE (mkQ ts ts.length).E) s (0, 0) (q, s.length)
    rw [runs_iff hr.f2 (fun c p q ⟨l, e, h1, h2, h3, h4, h5⟩ => (h.root.e p q (some e.s) ⟨l, e, h1, h2, h5, by rw [if_neg (by rw [h3]; decide)]⟩).2.2), mvs_ofE]
  unfold rul
  constructor
  · rintro ⟨q, h1, h2⟩
    rcases h.rul q _ h2 with h0 | ⟨j, a, b, rfl⟩
    · omega
    · obtain rfl : r = j := by omega
      obtain ⟨t, ht⟩ : ∃ t, ts[r]? = some t := ⟨_, List.getElem?_eq_getElem a⟩
      exact ⟨t, ht, ((h.out r t a ht).2.2 s 0 s.length).1 ((hrun _).1 h1)⟩
  · rintro ⟨t, ht, hm⟩
    have hlt := (List.getElem?_eq_some_iff.1 ht).1
    obtain ⟨h1, h2, h3⟩ := h.out r t hlt ht
    exact ⟨o r, (hrun _).2 ((h3 s 0 s.length).2 hm), h2⟩
end Go.Proofs.Ythjelilmlbbalaa.Dn
namespace Go.Proofs.Ythjelilmlbbalaa.De
open Go.Proofs.Ythjelilmlbbalaa.Tm Go.Proofs.Ythjelilmlbbalaa.Rm Go.Proofs.Ythjelilmlbbalaa.Rv Go.Proofs.Ythjelilmlbbalaa.Am Go.Proofs.Ythjelilmlbbalaa.An Go.Proofs.Ythjelilmlbbalaa.Af Go.Proofs.Ythjelilmlbbalaa.Ap Go.Proofs.Ythjelilmlbbalaa.Dm Go.Proofs.Ythjelilmlbbalaa.Dn

/-- How many edges there are. -/
def sm (E : List (List Eg)) : Nat := (E.map List.length).sum
theorem sm_two (E : List (List Eg)) : sm (E ++ [[], []]) = sm E := by unfold sm; simp
theorem sm_one (E : List (List Eg)) : sm (E ++ [[]]) = sm E := by unfold sm; simp
theorem sum_set : ∀ (E : List (List Eg)) (a : Nat) (l : List Eg), a < E.length → sm (E.set a l) + (E.getD a []).length = sm E + l.length
  | [], _, _, h => absurd h (by simp)
  | x :: E, 0, l, _ => by unfold sm; simp; omega
  | x :: E, a + 1, l, h => by
    have := sum_set E a l (by simpa using h)
    unfold sm at this ⊢
    simp at this ⊢
    omega
theorem sm_jn (E : List (List Eg)) (a b : Nat) (f : Bool) (s : List Nat) : sm (jn E a b f s) ≤ sm E + 1 := by
  unfold jn
  by_cases h : a < E.length
  · have := sum_set E a (E.getD a [] ++ [⟨(b : Int), f, s⟩]) h
    rw [List.length_append, List.length_singleton] at this
    omega
  · rw [List.set_eq_of_length_le (by omega)]; omega
theorem sm_fr (E : List (List Eg)) (a b : Nat) : sm (fr E a b) ≤ sm E + 1 := sm_jn _ _ _ _ _
theorem rpt_sm {f : List (List Eg) → Bd} {n lo t0 : Nat} (hf : ∀ E, sm (f E).E + 2 ≤ sm E + 2 * n) : ∀ (k j : Nat) (E : List (List Eg)) (st en : Nat), sm (rpt f lo t0 k j E st en).E ≤ sm E + k * (2 * n)
  | 0, _, E, st, en => by simp [rpt]
  | k + 1, j, E, st, en => by
    rw [rpt]
    have h1 : sm (if lo ≤ j then fr E en t0 else E) ≤ sm E + 1 := by
      split
      · exact sm_fr _ _ _
      · omega
    have h2 := hf (if lo ≤ j then fr E en t0 else E)
    have h3 := sm_fr (f (if lo ≤ j then fr E en t0 else E)).E en (f (if lo ≤ j then fr E en t0 else E)).i
    have h4 := rpt_sm (lo := lo) (t0 := t0) hf k (j + 1) (fr (f (if lo ≤ j then fr E en t0 else E)).E en (f (if lo ≤ j then fr E en t0 else E)).i) (f (if lo ≤ j then fr E en t0 else E)).i (f (if lo ≤ j then fr E en t0 else E)).o
    rw [Nat.succ_mul]
    omega
theorem rep_sm {f : List (List Eg) → Bd} {n lo : Nat} {hi : Int} (hf : ∀ E, sm (f E).E + 2 ≤ sm E + 2 * n) (E : List (List Eg)) : sm (rep f lo hi E).E + 2 ≤ sm E + 2 * (2 + cps lo hi * n) := by
  unfold rep
  dsimp only
  have h1 := rpt_sm (lo := lo) (t0 := E.length + 1) hf (cps lo hi) 0 (E ++ [[], []]) E.length E.length
  rw [sm_two] at h1
  have h2 := sm_fr (rpt f lo (E.length + 1) (cps lo hi) 0 (E ++ [[], []]) E.length E.length).E (rpt f lo (E.length + 1) (cps lo hi) 0 (E ++ [[], []]) E.length E.length).o (E.length + 1)
  have e : cps lo hi * (2 * n) = 2 * (cps lo hi * n) := by rw [Nat.mul_left_comm]
  split
  · have h3 := sm_fr (fr (rpt f lo (E.length + 1) (cps lo hi) 0 (E ++ [[], []]) E.length E.length).E (rpt f lo (E.length + 1) (cps lo hi) 0 (E ++ [[], []]) E.length E.length).o (E.length + 1)) (rpt f lo (E.length + 1) (cps lo hi) 0 (E ++ [[], []]) E.length E.length).o (rpt f lo (E.length + 1) (cps lo hi) 0 (E ++ [[], []]) E.length E.length).i
    omega
  · omega
mutual
theorem bT_sm : ∀ (t : T), okT t → ∀ E, sm (bT t E).E + 2 ≤ sm E + 2 * szU t
  | .set a, _, E => by
    unfold bT szU
    have := sm_jn (E ++ [[], []]) E.length (E.length + 1) false a
    rw [sm_two] at this
    dsimp only
    omega
  | .emp, _, E => by
    unfold bT szU
    have := sm_jn (E ++ [[], []]) E.length (E.length + 1) true zero
    rw [sm_two] at this
    dsimp only
    omega
  | .cat l, h, E => by
    unfold okT at h
    unfold bT szU
    exact bC_sm l h.2 h.1 E
  | .alt l, h, E => by
    unfold okT at h
    unfold bT szU
    have := bA_sm l h.2 E.length (E.length + 1) (E ++ [[], []])
    rw [sm_two] at this
    dsimp only
    omega
  | .star t, h, E => by
    unfold okT at h
    unfold bT szU
    have k := rep_sm (lo := 0) (hi := -1) (fun E => bT_sm t h E) E
    rw [show cps 0 (-1) * szU t = szU t by unfold cps; rw [if_pos (by omega)]; simp] at k
    exact k
  | .plus t, h, E => by
    unfold okT at h
    unfold bT szU
    have k := rep_sm (lo := 1) (hi := -1) (fun E => bT_sm t h E) E
    rw [show cps 1 (-1) * szU t = szU t by unfold cps; rw [if_pos (by omega)]; simp] at k
    exact k
  | .opt t, h, E => by
    unfold okT at h
    unfold bT szU
    have k := rep_sm (lo := 0) (hi := 1) (fun E => bT_sm t h E) E
    rw [show cps 0 1 * szU t = szU t by unfold cps; rw [if_neg (by omega)]; simp] at k
    exact k
  | .rep lo hi t, h, E => by
    unfold okT at h
    unfold bT szU
    exact rep_sm (fun E => bT_sm t h.2.2 E) E
theorem bC_sm : ∀ (l : List T), okTs l → 2 ≤ l.length → ∀ E, sm (bC l E).E + 2 ≤ sm E + 2 * szUs l
  | [], _, h, _ => absurd h (by simp)
  | t :: l, h, _, E => by
    unfold okTs at h
    unfold bC szUs
    dsimp only
    have h1 := bT_sm t h.1 E
    have h2 := bCs_sm l h.2 (bT t E).E (bT t E).o
    omega
theorem bCs_sm : ∀ (l : List T), okTs l → ∀ (E : List (List Eg)) (o : Nat), sm (bCs l E o).1 ≤ sm E + 2 * szUs l
  | [], _, E, o => by simp [bCs]
  | t :: l, h, E, o => by
    unfold okTs at h
    unfold bCs szUs
    dsimp only
    have h1 := bT_sm t h.1 E
    have h3 := sm_fr (bT t E).E o (bT t E).i
    have h2 := bCs_sm l h.2 (fr (bT t E).E o (bT t E).i) (bT t E).o
    omega
theorem bA_sm : ∀ (l : List T), okTs l → ∀ (i o : Nat) (E : List (List Eg)), sm (bA l i o E) ≤ sm E + 2 * szUs l
  | [], _, i, o, E => by simp [bA]
  | t :: l, h, i, o, E => by
    unfold okTs at h
    unfold bA szUs
    dsimp only
    have h1 := bT_sm t h.1 E
    have h3 := sm_fr (bT t E).E i (bT t E).i
    have h4 := sm_fr (fr (bT t E).E i (bT t E).i) (bT t E).o o
    have h2 := bA_sm l h.2 i o (fr (fr (bT t E).E i (bT t E).i) (bT t E).o o)
    omega
end
theorem bCs_snoc : ∀ (l : List T) (t : T) (E : List (List Eg)) (o : Nat), bCs (l ++ [t]) E o = (fr (bT t (bCs l E o).1).E (bCs l E o).2 (bT t (bCs l E o).1).i, (bT t (bCs l E o).1).o)
  | [], t, E, o => by simp [bCs]
  | x :: l, t, E, o => by rw [List.cons_append, bCs, bCs]; exact bCs_snoc l t _ _
theorem bA_snoc : ∀ (l : List T) (t : T) (i o : Nat) (E : List (List Eg)), bA (l ++ [t]) i o E = fr (fr (bT t (bA l i o E)).E i (bT t (bA l i o E)).i) (bT t (bA l i o E)).o o
  | [], t, i, o, E => by simp [bA]
  | x :: l, t, i, o, E => by rw [List.cons_append, bA, bA]; exact bA_snoc l t i o _
theorem szUs_snoc : ∀ (l : List T) (t : T), szUs (l ++ [t]) = szUs l + szU t
  | [], t => by simp [szUs]
  | x :: l, t => by rw [List.cons_append, szUs, szUs, szUs_snoc l t]; omega
theorem szUs_take {l : List T} {j : Nat} {t : T} (h : l[j]? = some t) : szUs (l.take (j + 1)) = szUs (l.take j) + szU t := by
  rw [List.take_add_one, h]
  exact szUs_snoc _ _
theorem szUs_le : ∀ (l : List T) (j : Nat), szUs (l.take j) ≤ szUs l
  | [], j => by simp
  | x :: l, 0 => by simp [szUs]
  | x :: l, j + 1 => by rw [List.take_succ_cons, szUs, szUs]; have := szUs_le l j; omega
theorem okTs_take : ∀ (l : List T) (j : Nat), okTs l → okTs (l.take j)
  | [], j, h => by simpa using h
  | x :: l, 0, h => by simp [okTs]
  | x :: l, j + 1, h => by unfold okTs at h; rw [List.take_succ_cons, okTs]; exact ⟨h.1, okTs_take l j h.2⟩
mutual
theorem szU_pos : ∀ t : T, okT t → 2 ≤ szU t
  | .set _, _ => by simp [szU]
  | .emp, _ => by simp [szU]
  | .cat l, h => by unfold okT at h; unfold szU; have := szUs_pos l h.2; omega
  | .alt l, h => by unfold szU; omega
  | .star t, _ => by unfold szU; omega
  | .plus t, _ => by unfold szU; omega
  | .opt t, _ => by unfold szU; omega
  | .rep lo hi t, _ => by unfold szU; omega
theorem szUs_pos : ∀ l : List T, okTs l → 2 * l.length ≤ szUs l
  | [], _ => by simp
  | t :: l, h => by
    unfold okTs at h
    have h1 := szU_pos t h.1
    have h2 := szUs_pos l h.2
    unfold szUs
    rw [List.length_cons]
    omega
end
theorem szUs_sum : ∀ l : List T, (l.map szU).sum = szUs l
  | [] => rfl
  | t :: l => by rw [List.map_cons, List.sum_cons, szUs_sum l]; rfl
mutual
/-- What is told of a size is the size, or too much. -/
theorem sz_two : ∀ t : T, (szQ t < 1000000 → szU t = szQ t) ∧ (szU t < 1000000 → szU t = szQ t)
  | .set _ => by simp [szU, szQ]
  | .emp => by simp [szU, szQ]
  | .cat l => by unfold szU szQ; have := szs_two l; omega
  | .alt l => by unfold szU szQ; have := szs_two l; omega
  | .star t => by unfold szU szQ; have := sz_two t; omega
  | .plus t => by unfold szU szQ; have := sz_two t; omega
  | .opt t => by unfold szU szQ; have := sz_two t; omega
  | .rep lo hi t => by
    unfold szU szQ
    have h := sz_two t
    show (min (2 + cps lo hi * szQ t) 1000000 < 1000000 → 2 + cps lo hi * szU t = min (2 + cps lo hi * szQ t) 1000000) ∧ (2 + cps lo hi * szU t < 1000000 → 2 + cps lo hi * szU t = min (2 + cps lo hi * szQ t) 1000000)
    rcases Nat.eq_zero_or_pos (cps lo hi) with h0 | h0
    · rw [h0]; simp
    · have h1 : szQ t ≤ cps lo hi * szQ t := Nat.le_mul_of_pos_left _ h0
      have h2 : szU t ≤ cps lo hi * szU t := Nat.le_mul_of_pos_left _ h0
      constructor
      · intro k
        rw [h.1 (by omega)]
        omega
      · intro k
        rw [← h.2 (by omega)]
        omega
theorem szs_two : ∀ l : List T, (szS l < 1000000 → szUs l = szS l) ∧ (szUs l < 1000000 → szUs l = szS l)
  | [] => by simp [szUs, szS]
  | t :: l => by unfold szUs szS; have h1 := sz_two t; have h2 := szs_two l; omega
end
end Go.Proofs.Ythjelilmlbbalaa.De
namespace Go.Proofs.Ythjelilmlbbalaa.Oh
open Go.RowKit Go.PlainAid Go.Proofs.Ythjelilmlbbalaa.Vm Go.Proofs.Ythjelilmlbbalaa.Vo Go.Proofs.Ythjelilmlbbalaa.Bw Go.Proofs.Ythjelilmlbbalaa.Na Go.Proofs.Ythjelilmlbbalaa.Ko Go.Proofs.Ythjelilmlbbalaa.Tm Go.Proofs.Ythjelilmlbbalaa.Ts Go.Proofs.Ythjelilmlbbalaa.Ta Go.Proofs.Ythjelilmlbbalaa.Tb Go.Proofs.Ythjelilmlbbalaa.Tf Go.Proofs.Ythjelilmlbbalaa.Rm Go.Proofs.Ythjelilmlbbalaa.Rv Go.Proofs.Ythjelilmlbbalaa.Ra Go.Proofs.Ythjelilmlbbalaa.Rn Go.Proofs.Ythjelilmlbbalaa.Ed Go.Proofs.Ythjelilmlbbalaa.En Go.Proofs.Ythjelilmlbbalaa.Aq Go.Proofs.Ythjelilmlbbalaa.Og

/-- A byte that stands for itself: an a or a b. -/
structure pl (s : ByteArray) (a : Nat) (c : UInt8) : Prop where
  lt : a < s.size
  b : bt s a = (c.toNat : Int)
  ab : c = 97 ∨ c = 98
  x : (s.extract a (a + 1)).data.toList = [c]
theorem pl.no {s : ByteArray} {a : Nat} {c : UInt8} (h : pl s a c) {d : Int} (hd : d ≠ 97 ∧ d ≠ 98) : isQ s a d = false := by
  unfold isQ
  rw [h.b]
  have : ((c.toNat : Int) == d) = false := by
    rw [beq_eq_false_iff_ne]
    rcases h.ab with rfl | rfl
    · exact fun e => hd.1 e.symm
    · exact fun e => hd.2 e.symm
  rw [this, Bool.and_false]
theorem sp_no {c : UInt8} (h : c = 97 ∨ c = 98) : ∀ k < 12, (bt spS k == (c.toNat : Int)) = false := by
  rcases h with rfl | rfl <;> decide
/-- What reading of one node leaves. -/
def got1 (g : Nat) (s : ByteArray) (b : Nat) (l : List Nd) (w : World) (e : Ending) (w' : World) : Prop := ∃ v', e = .returned v' ∧ sT w' v' l ∧ rpar w' g s b ∧ Only (· = g) w w'
set_option maxHeartbeats 600000 in
set_option maxRecDepth 100000 in
theorem ratom {g : Nat} {s : ByteArray} {a : Nat} {c : UInt8} (hs : s.size ≤ 1000) (P : pl s a c) {w : World} (H : Hid (rpar w g s a)) :
    Calls Try.prog 90 #[.pointer (some ⟨g, 0, none⟩)] w fun e w' => got1 g s (a + 1) [⟨1, 0, ofS [c], 0, 0⟩] w e w' := by
  have H40 : Hid (∀ u, rpar u g s a → Calls Try.prog 61 #[.pointer (some ⟨g, 0, none⟩), .int .u8 40] u fun e w' => e = .returned (.bool false) ∧ ∃ n, w' = u.drewN n) := Lib.hid (fun u h => rtake_no (P.no (by omega)) (Lib.hid h))
  have H91 : Hid (∀ u, rpar u g s a → Calls Try.prog 61 #[.pointer (some ⟨g, 0, none⟩), .int .u8 91] u fun e w' => e = .returned (.bool false) ∧ ∃ n, w' = u.drewN n) := Lib.hid (fun u h => rtake_no (P.no (by omega)) (Lib.hid h))
  have H46 : Hid (∀ u, rpar u g s a → Calls Try.prog 61 #[.pointer (some ⟨g, 0, none⟩), .int .u8 46] u fun e w' => e = .returned (.bool false) ∧ ∃ n, w' = u.drewN n) := Lib.hid (fun u h => rtake_no (P.no (by omega)) (Lib.hid h))
  have H92 : Hid (∀ u, rpar u g s a → Calls Try.prog 75 #[.pointer (some ⟨g, 0, none⟩), .int .u8 92] u fun e w' => e = .returned (.bool false) ∧ ∃ n, w' = u.drewN n) := Lib.hid (fun u h => by have k := ris_any 92 (Lib.hid h); rw [P.no (by omega)] at k; exact k)
  obtain ⟨z, hz⟩ : ∃ z : Int, z = bt s a := ⟨_, rfl⟩
  have HSP : Hid (∀ u, Calls Try.prog 103 #[.int .u8 z] u fun e w' => e = .returned (.bool false) ∧ u = w') := Lib.hid (fun u => by rw [hz, P.b]; exact rspecial_no (sp_no P.ab) u)
  have HOF : Hid (∀ u, Calls Try.prog 101 #[.string (s.extract a (a + 1))] u fun e w' => e = .returned (.agg (sv (ofS [c]))) ∧ Below u.heap.size u w') := Lib.hid (fun u => by have k := rOf_any (s.extract a (a + 1)) u (by have h2 : (s.extract a (a + 1)).size = ((s.extract a (a + 1)).data.toList).length := (Array.length_toList).symm; rw [P.x] at h2; rw [h2]; simp); rw [P.x] at k; exact k)
  have HONE : Hid (∀ u, Calls Try.prog 98 #[.agg (sv (ofS [c]))] u fun e w' => ∃ v', e = .returned v' ∧ sT w' v' [⟨1, 0, ofS [c], 0, 0⟩] ∧ Below u.heap.size u w') := Lib.hid (fun u => rone_any (ofS_set [c]) u)
  have hb := get_bt s
  have hba := hz.symm
  clear hz
  have c0 := H.out.c0
  have c1 := H.out.c1
  have f1 := H.out.frozen 1
  have h1 : (a : Int) < (s.size : Int) := by have := P.lt; omega
  have h0 : (0 : Int) ≤ (a : Int) := by omega
  have ha : (a : Int) ≤ 1000 := by have := P.lt; omega
  obtain ⟨SX, hSX⟩ : ∃ SX, SX = s.extract a (a + 1) := ⟨_, rfl⟩
  rw [← hSX] at HOF
  have hsl : ∀ u : World, (Instr.slice 9 (.string s) (some (.int .i64 (a : Int))) (some (.int .i64 ((a : Int) + 1))) none).run Try.prog u = .ok (.string SX) u := fun u => by
    have g3 : (a : Int) + 1 ≤ (s.size : Int) := by omega
    have g4 : (a : Int) ≤ (a : Int) + 1 := by omega
    have g5 : (0 : Int) ≤ (a : Int) + 1 := by omega
    have g6 : ((a : Int) + 1).toNat = a + 1 := by omega
    rw [hSX]
    go_simp
  clear hSX P
  go_enter Try.func90, Try.ntmps90
  go_upto_region 14 with (first | (go_at_call 61; (with_reducible refine (H40.out _ ?_).mono ?_); (exact H.out); rintro e w1 ⟨rfl, n1, rfl⟩) | (go_at_call 61; (with_reducible refine (H91.out _ ?_).mono ?_); (exact H.out); rintro e w1 ⟨rfl, n2, rfl⟩) | (go_at_call 61; (with_reducible refine (H46.out _ ?_).mono ?_); (exact H.out); rintro e w1 ⟨rfl, n3, rfl⟩) | (go_at_call 75; (with_reducible refine (H92.out _ ?_).mono ?_); (exact H.out); rintro e w1 ⟨rfl, n4, rfl⟩))
  obtain ⟨w1, hw1⟩ : ∃ w1, w1 = w.drewN (n1 + n2 + n3 + n4) := ⟨_, rfl⟩
  have R1 : Hid (rpar w1 g s a) := Lib.hid (by rw [hw1]; exact H.out)
  have O1 : Hid (Only (· = g) w w1) := Lib.hid (by rw [hw1]; exact (Only.refl (· = g) w).draws _)
  rw [← hw1]
  clear hw1 c0 c1 f1
  have c0 := R1.out.c0
  have c1 := R1.out.c1
  go_still_tail 9, (by kernel_rfl)
  go_upto_region 17 with (go_at_call 103; refine (HSP.out _).mono ?_; rintro e w3 ⟨rfl, rfl⟩)
  obtain ⟨w2, hw2⟩ : ∃ w2, w2 = w1.drew := ⟨_, rfl⟩
  have R2 : Hid (rpar w2 g s a) := Lib.hid (by rw [hw2]; exact R1.out)
  have O2 : Hid (Only (· = g) w w2) := Lib.hid (by rw [hw2]; exact O1.out.drew)
  rw [← hw2]
  clear hw2 c0 c1
  have c0 := R2.out.c0
  have c1 := R2.out.c1
  have f1 := R2.out.frozen 1
  go_upto_region 18 with fail
  obtain ⟨w4, hw4⟩ : ∃ w4, w4 = w2.setCell ⟨g, 1, none⟩ (.int .i64 ((a : Int) + 1)) := ⟨_, rfl⟩
  have R4 : Hid (rpar w4 g s (a + 1)) := Lib.hid (by rw [hw4]; have := R2.out.goes (a + 1); simpa using this)
  have O4 : Hid (Only (· = g) w w4) := Lib.hid (by rw [hw4]; exact O2.out.store (p := ⟨g, 1, none⟩) (.inl rfl) _)
  rw [← hw4]
  clear hw4 c0 c1 f1
  have c0 := R4.out.c0
  go_wp2_with (first | (go_at_call 101; refine (HOF.out _).mono ?_; rintro e w5 ⟨rfl, k5⟩; have K5 := Lib.hid k5; clear k5) | (go_at_call 98; refine (HONE.out _).mono ?_; rintro e w6 ⟨v6, rfl, h6, k6⟩; have H6 := Lib.hid h6; have K6 := Lib.hid (grows K5.out k6); clear h6 k6))
  go_ret
  exact ⟨v6, rfl, H6.out, R4.out.below K6.out, O4.out.trans (Only.of_below K6.out)⟩
end Go.Proofs.Ythjelilmlbbalaa.Oh
namespace Go.Proofs.Ythjelilmlbbalaa.Oi
open Go.RowKit Go.PlainAid Go.Proofs.Ythjelilmlbbalaa.Vm Go.Proofs.Ythjelilmlbbalaa.Vo Go.Proofs.Ythjelilmlbbalaa.Bw Go.Proofs.Ythjelilmlbbalaa.Na Go.Proofs.Ythjelilmlbbalaa.Ko Go.Proofs.Ythjelilmlbbalaa.Tm Go.Proofs.Ythjelilmlbbalaa.Ts Go.Proofs.Ythjelilmlbbalaa.Ta Go.Proofs.Ythjelilmlbbalaa.Tb Go.Proofs.Ythjelilmlbbalaa.Tf Go.Proofs.Ythjelilmlbbalaa.Rm Go.Proofs.Ythjelilmlbbalaa.Rv Go.Proofs.Ythjelilmlbbalaa.Ra Go.Proofs.Ythjelilmlbbalaa.Rn Go.Proofs.Ythjelilmlbbalaa.Ed Go.Proofs.Ythjelilmlbbalaa.En Go.Proofs.Ythjelilmlbbalaa.Ar Go.Proofs.Ythjelilmlbbalaa.Aq Go.Proofs.Ythjelilmlbbalaa.Og Go.Proofs.Ythjelilmlbbalaa.Oh

theorem sT.form {w : World} {v : Value} {l : List Nd} (h : sT w v l) : ∃ A n c, v = .slice A n c ∧ n = l.length ∧ sT w (.slice A n c) l := by
  obtain ⟨A, c, rfl, h1, h2⟩ := h
  exact ⟨A, _, c, rfl, rfl, A, c, rfl, h1, h2⟩
/-- Writes to the reader leave it. -/
theorem sT.apart {w w' : World} {v : Value} {l : List Nd} (h : sT w v l) {g : Nat} {s : ByteArray} {a : Nat} (p : rpar w g s a) (k : Only (· = g) w w') : sT w' v l :=
  h.only k (fun i hi _ => by
    have e : i = g := hi
    subst e
    exact ⟨_, _, p, by decide⟩)
set_option maxHeartbeats 600000 in
set_option maxRecDepth 100000 in
theorem rrep {g : Nat} {s : ByteArray} {a : Nat} {c : UInt8} (hs : s.size ≤ 1000) (P : pl s a c) (hn : ∀ d : Int, d = 42 ∨ d = 43 ∨ d = 63 ∨ d = 123 → isQ s (a + 1) d = false) {w : World} (H : Hid (rpar w g s a)) :
    Calls Try.prog 76 #[.pointer (some ⟨g, 0, none⟩)] w fun e w' => got1 g s (a + 1) [⟨1, 0, ofS [c], 0, 0⟩] w e w' := by
  have HA := Lib.hid (ratom hs P H)
  obtain ⟨b, hb⟩ : ∃ b, b = a + 1 := ⟨_, rfl⟩
  obtain ⟨l, hl⟩ : ∃ l, l = [(⟨1, 0, ofS [c], 0, 0⟩ : Nd)] := ⟨_, rfl⟩
  rw [← hb] at HA hn ⊢
  rw [← hl] at HA ⊢
  have HT : ∀ d : Int, isQ s b d = false → ∀ u, rpar u g s b → Calls Try.prog 61 #[.pointer (some ⟨g, 0, none⟩), .int .u8 d] u fun e w' => e = .returned (.bool false) ∧ ∃ n, w' = u.drewN n := fun d hd u h => rtake_no hd (Lib.hid h)
  have H42 := Lib.hid (HT 42 (hn 42 (by omega)))
  have H43 := Lib.hid (HT 43 (hn 43 (by omega)))
  have H63 := Lib.hid (HT 63 (hn 63 (by omega)))
  have H123 : Hid (∀ u, rpar u g s b → Calls Try.prog 75 #[.pointer (some ⟨g, 0, none⟩), .int .u8 123] u fun e w' => e = .returned (.bool false) ∧ ∃ n, w' = u.drewN n) := Lib.hid (fun u h => by have k := ris_any 123 (Lib.hid h); rw [hn 123 (by omega)] at k; exact k)
  clear hn P hb hl HT
  go_enter Try.func76, Try.ntmps76
  go_upto_region 2 with (go_at_call 90; refine HA.out.mono ?_; rintro e w1 ⟨v1, rfl, s1, p1, o1⟩; obtain ⟨A1, n1, c1, rfl, hn1, s1⟩ := sT.form s1; have S1 := Lib.hid s1; have P1 := Lib.hid p1; have O1 := Lib.hid o1; clear s1 p1 o1 hn1)
  go_loopw [3, 4, 5] (fun s3 _ _ wr => s3 = .slice A1 n1 c1 ∧ Hid (sT wr (.slice A1 n1 c1) l) ∧ Hid (rpar wr g s b) ∧ Hid (Only (· = g) w wr)) (fun _ _ _ _ => 0)
  case atStart => exact ⟨rfl, S1, P1, O1⟩
  case round =>
    obtain ⟨rfl, HS, HP, HO⟩ := hrel
    have c2 := HP.out.c2
    go_wp2_with (first | (go_at_call 61; (with_reducible refine (H42.out _ ?_).mono ?_); (exact HP.out); rintro e w1 ⟨rfl, m1, rfl⟩) | (go_at_call 61; (with_reducible refine (H43.out _ ?_).mono ?_); (exact HP.out); rintro e w1 ⟨rfl, m2, rfl⟩) | (go_at_call 61; (with_reducible refine (H63.out _ ?_).mono ?_); (exact HP.out); rintro e w1 ⟨rfl, m3, rfl⟩) | (go_at_call 75; (with_reducible refine (H123.out _ ?_).mono ?_); (exact HP.out); rintro e w1 ⟨rfl, m4, rfl⟩))
    go_ret
    exact ⟨_, rfl, HS.out.below (below_draws _ _), HP.out, HO.out.draws _⟩
set_option maxHeartbeats 600000 in
set_option maxRecDepth 100000 in
theorem rmany_one {k : Int} {v : Value} {l : List Nd} {w : World} (H : Hid (rows w v [l])) : Calls Try.prog 62 #[.int .i64 k, v] w fun e w' => ∃ v', e = .returned v' ∧ sT w' v' l ∧ Below w.heap.size w w' := by
  obtain ⟨base, L, hv, hL, hr⟩ := H.out
  obtain ⟨x, hx, hsx⟩ := hr 0 l rfl
  obtain ⟨A1, n1, c1, rfl, hn1, hsx⟩ := sT.form hsx
  have HS := Lib.hid hsx
  obtain ⟨A, cap, rfl⟩ := H.out.form
  obtain ⟨g, rfl, _, hcell⟩ := hv.cell hx
  clear hv hL hr hx hsx hn1 H
  dsimp only [List.length_cons, List.length_nil, Nat.zero_add]
  go_enter Try.func62, Try.ntmps62
  go_wp2_with fail
  go_ret
  exact ⟨_, rfl, HS.out, Below.refl _ _⟩
set_option maxHeartbeats 600000 in
set_option maxRecDepth 100000 in
theorem rmany_two {v : Value} {l1 l2 : List Nd} (h1 : l1.length ≤ 1000) (h2 : l2.length ≤ 1000) {w : World} (H : Hid (rows w v [l1, l2])) : Calls Try.prog 62 #[.int .i64 4, v] w fun e w' => ∃ v', e = .returned v' ∧ sT w' v' (⟨4, 2, zero, 0, 0⟩ :: (l1 ++ l2)) ∧ Below w.heap.size w w' := by
  have HJ : Hid (Calls Try.prog 77 #[.agg #[.int .i64 4, .int .i64 0, .int .u64 0, .int .u64 0, .int .u64 0, .int .u64 0, .int .i64 0, .int .i64 0], v] w fun e w' => ∃ v', e = .returned v' ∧ sT w' v' (⟨4, 2, zero, 0, 0⟩ :: (l1 ++ l2)) ∧ Below w.heap.size w w') := Lib.hid (by
    have k := rJoin_any (x := ⟨4, 0, zero, 0, 0⟩) (ls := [l1, l2]) ⟨zero_set, by unfold in64; dsimp only; omega, in0, in0, in0⟩ (by simp; omega) (by simp) H
    have e : [l1, l2].flatten = l1 ++ l2 := by simp
    rw [e] at k
    exact k)
  obtain ⟨A, cap, rfl⟩ := H.out.form
  clear H h1 h2
  dsimp only [List.length_cons, List.length_nil, Nat.zero_add] at HJ ⊢
  go_enter Try.func62, Try.ntmps62
  go_wp2_with (go_at_call 77; refine HJ.out.mono ?_; rintro e w1 ⟨v1, rfl, s1, k1⟩; have HS := Lib.hid s1; have HK := Lib.hid k1; clear s1 k1)
  go_ret
  exact ⟨_, rfl, HS.out, HK.out⟩
theorem rows_one {w w4 : World} {x v4 : Value} {l : List Nd} (hx : sT w x l) (h4 : vs w4 0 35 v4 ([] ++ [x])) (o4 : Only (fun i => (Value.slice none 0 0).ownBlock = some i) w w4) : rows w4 v4 [l] := by
  have k : sT w4 x l := hx.only o4 (fun i hi => by cases hi)
  refine ⟨0, [x], h4, rfl, fun j l' hj => ?_⟩
  match j, hj with
  | 0, hj => obtain rfl := Option.some.inj hj
             exact ⟨x, rfl, k⟩
/-- Where cat stands: ahead of its one part, or behind it. -/
def catS (g : Nat) (s : ByteArray) (a : Nat) (l : List Nd) (w : World) (j : Nat) (v : Value) (wr : World) : Prop := (j = 0 ∧ v = .slice none 0 0 ∧ rpar wr g s a ∧ Only (· = g) w wr) ∨ (j = 1 ∧ rows wr v [l] ∧ rpar wr g s (a + 1) ∧ Only (· = g) w wr)
set_option maxHeartbeats 1000000 in
set_option maxRecDepth 100000 in
theorem rcat {g : Nat} {s : ByteArray} {a : Nat} {c : UInt8} (hs : s.size ≤ 1000) (P : pl s a c) (hn : a + 1 = s.size ∨ (a + 1 < s.size ∧ isQ s (a + 1) 124 = true)) (hn2 : ∀ d : Int, d = 42 ∨ d = 43 ∨ d = 63 ∨ d = 123 → isQ s (a + 1) d = false) {w : World} (H : Hid (rpar w g s a)) :
    Calls Try.prog 60 #[.pointer (some ⟨g, 0, none⟩)] w fun e w' => got1 g s (a + 1) [⟨1, 0, ofS [c], 0, 0⟩] w e w' := by
  have HRP : Hid (∀ u, rpar u g s a → Calls Try.prog 76 #[.pointer (some ⟨g, 0, none⟩)] u fun e w' => got1 g s (a + 1) [⟨1, 0, ofS [c], 0, 0⟩] u e w') := Lib.hid (fun u h => rrep hs P hn2 (Lib.hid h))
  obtain ⟨l, hl⟩ : ∃ l, l = [(⟨1, 0, ofS [c], 0, 0⟩ : Nd)] := ⟨_, rfl⟩
  rw [← hl] at HRP ⊢
  have H124 : Hid (∀ u, rpar u g s a → Calls Try.prog 75 #[.pointer (some ⟨g, 0, none⟩), .int .u8 124] u fun e w' => e = .returned (.bool false) ∧ ∃ n, w' = u.drewN n) := Lib.hid (fun u h => by have k := ris_any 124 (Lib.hid h); rw [P.no (by omega)] at k; exact k)
  have H41 : Hid (∀ u, rpar u g s a → Calls Try.prog 75 #[.pointer (some ⟨g, 0, none⟩), .int .u8 41] u fun e w' => e = .returned (.bool false) ∧ ∃ n, w' = u.drewN n) := Lib.hid (fun u h => by have k := ris_any 41 (Lib.hid h); rw [P.no (by omega)] at k; exact k)
  have H125 : Hid (isQ s (a + 1) 124 = true → ∀ u, rpar u g s (a + 1) → Calls Try.prog 75 #[.pointer (some ⟨g, 0, none⟩), .int .u8 124] u fun e w' => e = .returned (.bool true) ∧ ∃ n, w' = u.drewN n) := Lib.hid (fun hq u h => by have k := ris_any 124 (Lib.hid h); rw [hq] at k; exact k)
  have h1 : (a : Int) < (s.size : Int) := by have := P.lt; omega
  have h0 : (0 : Int) ≤ (a : Int) := by omega
  clear P hl hn2
  have HS0 : Hid (catS g s a l w 0 (.slice none 0 0) w) := Lib.hid (.inl ⟨rfl, rfl, H.out, Only.refl _ _⟩)
  go_enter Try.func60, Try.ntmps60
  go_upto_region 2 with fail
  go_loopw [3] (fun s3 wr => ∃ (j : Nat) (v : Value), s3 = v ∧ Hid (catS g s a l w j v wr)) (fun s3 _ => match s3 with | .slice _ 0 _ => 1 | _ => 0)
  case atStart => exact ⟨0, _, rfl, HS0⟩
  case round =>
    obtain ⟨j, v, rfl, HS⟩ := hrel
    rcases HS.out with ⟨rfl, rfl, hp, ho⟩ | ⟨rfl, hr, hp, ho⟩
    · have HP := Lib.hid hp
      have HO := Lib.hid ho
      have c0 := hp.c0
      have c1 := hp.c1
      have c2 := hp.c2
      have HX1 : Hid (∀ n, Calls Try.prog 75 #[.pointer (some ⟨g, 0, none⟩), .int .u8 124] (wr.drewN n) fun e w' => e = .returned (.bool false) ∧ ∃ m, w' = (wr.drewN n).drewN m) := Lib.hid (fun n => H124.out _ (hp.draws n))
      have HX2 : Hid (∀ n, Calls Try.prog 75 #[.pointer (some ⟨g, 0, none⟩), .int .u8 41] (wr.drewN n) fun e w' => e = .returned (.bool false) ∧ ∃ m, w' = (wr.drewN n).drewN m) := Lib.hid (fun n => H41.out _ (hp.draws n))
      clear hp ho HS
      go_wp2
      go_quiet (first | (go_at_call 75; (with_reducible refine Calls.quiet_of (HX1.out _))) | (go_at_call 75; (with_reducible refine Calls.quiet_of (HX2.out _))))
      obtain ⟨w4, hw4⟩ : ∃ w4, w4 = wr.drewN nq := ⟨_, rfl⟩
      have HP4 : Hid (rpar w4 g s a) := Lib.hid (by rw [hw4]; exact HP.out.draws _)
      have HO4 : Hid (Only (· = g) w w4) := Lib.hid (by rw [hw4]; exact HO.out.draws _)
      rw [← hw4]
      clear hw4 c0 c1 c2 HP HO HX1 HX2
      have HR := Lib.hid (HRP.out _ HP4.out)
      have HZ : Hid (vs w4 0 35 (.slice none 0 0) []) := Lib.hid (vs_nil _ _ _)
      go_wp2_with (first | (go_at_call 76; refine HR.out.mono ?_; rintro e w5 ⟨v5, rfl, s5, p5, o5⟩; obtain ⟨A1, n1, c1, rfl, hn1, s5⟩ := sT.form s5; clear hn1; have S5 := Lib.hid s5; have P5 := Lib.hid p5; have O5 := Lib.hid o5; clear s5 p5 o5) | (at_builtin; refine wpList_vsO Try.underlying22 infoSN rfl (by decide) rfl _ _ rfl (base := 0) (Nat.zero_le _) (by rfl) (vs_nil _ _ _) (.slice A1 n1 c1) rfl rfl (by rfl) (by rfl) (by simp) ?_; intro v6 w6 h6 o6; have H6 := Lib.hid h6; have O6 := Lib.hid o6; clear h6 o6))
      obtain ⟨A6, c6, rfl, _⟩ := H6.out.le
      have HE6 : Hid (catS g s a l w 1 (.slice A6 ([] ++ [Value.slice A1 l.length c1]).length c6) w6) := Lib.hid (.inr ⟨rfl, rows_one S5.out H6.out O6.out, P5.out.only O6.out (fun e => by cases e), (HO4.out.trans O5.out).trans (O6.out.mono (fun i e => by cases e))⟩)
      go_roundw
      case rel => exact ⟨1, _, rfl, HE6⟩
      case measure => simp
    · have hd := hp
      have c0 := hp.c0
      have c1 := hp.c1
      have c2 := hp.c2
      have HP := Lib.hid hp
      have HO := Lib.hid ho
      have HR := Lib.hid hr
      obtain ⟨A, cap, rfl⟩ := hr.form
      have HM : Hid (∀ n, Calls Try.prog 62 #[.int .i64 3, .slice A 1 cap] (wr.drewN n) fun e w' => ∃ v', e = .returned v' ∧ sT w' v' l ∧ Below (wr.drewN n).heap.size (wr.drewN n) w') := Lib.hid (fun n => rmany_one (k := 3) (Lib.hid (hr.below (below_draws _ _))))
      clear hr hd ho HS HRP H124 H41
      dsimp only [List.length_cons, List.length_nil, Nat.zero_add]
      obtain ⟨b, hb⟩ : ∃ b, b = a + 1 := ⟨_, rfl⟩
      rw [← hb] at hn c1 HP H125 hp
      have HBA : Hid (b = a + 1) := Lib.hid hb
      clear h1 h0 hb
      rcases hn with hn | ⟨hn, hq⟩
      · have h9 : (b < s.size) = False := by simp; omega
        clear hn hp H125
        go_wp2
        go_quiet (fail)
        simp only [Exit.then]
        go_wp2_with (go_at_call 62; refine (HM.out _).mono ?_; rintro e w5 ⟨v5, rfl, s5, k5⟩; have S5 := Lib.hid s5; have K5 := Lib.hid k5; clear s5 k5)
        go_ret
        exact ⟨_, rfl, S5.out, by rw [← HBA.out]; exact (HP.out.draws _).below K5.out, (HO.out.draws _).trans (Only.of_below K5.out)⟩
      · have h9 : ((b : Int) < (s.size : Int)) := by omega
        have HX1 : Hid (∀ n, Calls Try.prog 75 #[.pointer (some ⟨g, 0, none⟩), .int .u8 124] (wr.drewN n) fun e w' => e = .returned (.bool true) ∧ ∃ m, w' = (wr.drewN n).drewN m) := Lib.hid (fun n => H125.out hq _ (hp.draws n))
        clear hn hp hq H125
        go_wp2
        go_quiet (first | (go_at_call 75; (with_reducible refine Calls.quiet_of (HX1.out _))))
        simp only [Exit.then]
        go_wp2_with (go_at_call 62; refine (HM.out _).mono ?_; rintro e w5 ⟨v5, rfl, s5, k5⟩; have S5 := Lib.hid s5; have K5 := Lib.hid k5; clear s5 k5)
        go_ret
        exact ⟨_, rfl, S5.out, by rw [← HBA.out]; exact (HP.out.draws _).below K5.out, (HO.out.draws _).trans (Only.of_below K5.out)⟩
end Go.Proofs.Ythjelilmlbbalaa.Oi
namespace Go.Proofs.Ythjelilmlbbalaa.Oj
open Go.RowKit Go.PlainAid Go.Proofs.Ythjelilmlbbalaa.Vm Go.Proofs.Ythjelilmlbbalaa.Vo Go.Proofs.Ythjelilmlbbalaa.Bw Go.Proofs.Ythjelilmlbbalaa.Na Go.Proofs.Ythjelilmlbbalaa.Ko Go.Proofs.Ythjelilmlbbalaa.Tm Go.Proofs.Ythjelilmlbbalaa.Ts Go.Proofs.Ythjelilmlbbalaa.Ta Go.Proofs.Ythjelilmlbbalaa.Tb Go.Proofs.Ythjelilmlbbalaa.Tf Go.Proofs.Ythjelilmlbbalaa.Rm Go.Proofs.Ythjelilmlbbalaa.Rv Go.Proofs.Ythjelilmlbbalaa.Ra Go.Proofs.Ythjelilmlbbalaa.Rn Go.Proofs.Ythjelilmlbbalaa.Ed Go.Proofs.Ythjelilmlbbalaa.En Go.Proofs.Ythjelilmlbbalaa.Ar Go.Proofs.Ythjelilmlbbalaa.Aq Go.Proofs.Ythjelilmlbbalaa.Og Go.Proofs.Ythjelilmlbbalaa.Oh Go.Proofs.Ythjelilmlbbalaa.Oi

/-- A row's own block holds no nodes. -/
theorem vs_block {w : World} {base : Nat} {v : Value} {L : List Value} (h : vs w base 35 v L) : ∀ i, v.ownBlock = some i → i < w.heap.size → ∃ t cs, Blk w i t cs ∧ t ≠ 79 := by
  intro i hi _
  rcases h.2 with ⟨rfl, _⟩ | ⟨g', cap, cur, rfl, _, hh, _⟩
  · simp [Value.ownBlock] at hi
  · obtain rfl : g' = i := by simpa [Value.ownBlock] using hi
    exact ⟨_, cur, hh, by decide⟩
/-- A row of one part gets a second one. -/
theorem rows_two {w w4 : World} {B : Nat} {x y v v4 : Value} {l1 l2 : List Nd} (hv : vs w B 35 v [x]) (hx : sT w x l1) (hy : sT w y l2) (h4 : vs w4 B 35 v4 ([x] ++ [y])) (o4 : Only (fun i => v.ownBlock = some i) w w4) : rows w4 v4 [l1, l2] := by
  have k1 : sT w4 x l1 := hx.only o4 (vs_block hv)
  have k2 : sT w4 y l2 := hy.only o4 (vs_block hv)
  refine ⟨B, [x, y], h4, rfl, fun j l' hj => ?_⟩
  match j, hj with
  | 0, hj => obtain rfl := Option.some.inj hj
             exact ⟨x, rfl, k1⟩
  | 1, hj => obtain rfl := Option.some.inj hj
             exact ⟨y, rfl, k2⟩
theorem rows_lit {w : World} {x : Value} {l : List Nd} (h : sT w x l) : rows (w.alloc (.cells #[x] 35)) (.slice (some ⟨w.heap.size, 0, none⟩) 1 1) [l] :=
  ⟨0, [x], vs_lit (Nat.zero_le _), rfl, fun j l' hj => by
    match j, hj with
    | 0, hj => obtain rfl := Option.some.inj hj
               exact ⟨x, rfl, h.below (below_alloc _ _)⟩⟩
set_option maxHeartbeats 600000 in
set_option maxRecDepth 100000 in
theorem ralt_one {g : Nat} {s : ByteArray} {a : Nat} {c : UInt8} (hs : s.size ≤ 1000) (P : pl s a c) (hn : a + 1 = s.size) {w : World} (H : Hid (rpar w g s a)) :
    Calls Try.prog 45 #[.pointer (some ⟨g, 0, none⟩)] w fun e w' => got1 g s (a + 1) [⟨1, 0, ofS [c], 0, 0⟩] w e w' := by
  have hq : ∀ d : Int, isQ s (a + 1) d = false := fun d => by unfold isQ; rw [decide_eq_false (by omega)]; rfl
  have HC := Lib.hid (rcat hs P (.inl hn) (fun d _ => hq d) H)
  obtain ⟨l, hl⟩ : ∃ l, l = [(⟨1, 0, ofS [c], 0, 0⟩ : Nd)] := ⟨_, rfl⟩
  rw [← hl] at HC ⊢
  have HTN : Hid (∀ u, rpar u g s (a + 1) → Calls Try.prog 61 #[.pointer (some ⟨g, 0, none⟩), .int .u8 124] u fun e w' => e = .returned (.bool false) ∧ ∃ n, w' = u.drewN n) := Lib.hid (fun u h => rtake_no (hq 124) (Lib.hid h))
  clear hl hq hn P
  go_enter Try.func45, Try.ntmps45
  go_upto_region 2 with (go_at_call 60; refine HC.out.mono ?_; rintro e w1 ⟨v1, rfl, s1, p1, o1⟩; obtain ⟨A1, n1, c1, rfl, hn1, s1⟩ := sT.form s1; have S1 := Lib.hid s1; have P1 := Lib.hid p1; have O1 := Lib.hid o1; clear s1 p1 o1 hn1)
  obtain ⟨w2, hw2⟩ : ∃ w2, w2 = w1.alloc (.cells #[.slice A1 n1 c1] 35) := ⟨_, rfl⟩
  have R2 : Hid (rows w2 (.slice (some ⟨w1.heap.size, 0, none⟩) 1 1) [l]) := Lib.hid (by rw [hw2]; exact rows_lit S1.out)
  have P2 : Hid (rpar w2 g s (a + 1)) := Lib.hid (by rw [hw2]; exact P1.out.below (below_alloc _ _))
  have O2 : Hid (Only (· = g) w w2) := Lib.hid (by rw [hw2]; exact O1.out.alloc _)
  obtain ⟨N1, hN1⟩ : ∃ N1, N1 = w1.heap.size := ⟨_, rfl⟩
  rw [← hN1] at R2
  have hw2' := hw2.symm
  have hN1' := hN1.symm
  clear S1 P1 O1 HC
  go_loopw [3] (fun s3 wr => s3 = .slice (some ⟨N1, 0, none⟩) 1 1 ∧ Hid (rows wr (.slice (some ⟨N1, 0, none⟩) 1 1) [l]) ∧ Hid (rpar wr g s (a + 1)) ∧ Hid (Only (· = g) w wr)) (fun _ _ => 0)
  case atStart => subst hw2; subst hN1; exact ⟨rfl, R2, P2, O2⟩
  case round =>
    clear hw2 hw2' hN1 hN1'
    obtain ⟨rfl, HR, HP, HO⟩ := hrel
    have HM : Hid (∀ n, Calls Try.prog 62 #[.int .i64 4, .slice (some ⟨N1, 0, none⟩) 1 1] (wr.drewN n) fun e w' => ∃ v', e = .returned v' ∧ sT w' v' l ∧ Below (wr.drewN n).heap.size (wr.drewN n) w') := Lib.hid (fun n => rmany_one (k := 4) (Lib.hid (HR.out.below (below_draws _ _))))
    go_wp2_with (first | (go_at_call 61; (with_reducible refine (HTN.out _ ?_).mono ?_); (exact HP.out); rintro e w3 ⟨rfl, m1, rfl⟩) | (go_at_call 62; refine (HM.out _).mono ?_; rintro e w5 ⟨v5, rfl, s5, k5⟩; have S5 := Lib.hid s5; have K5 := Lib.hid k5; clear s5 k5))
    go_ret
    exact ⟨_, rfl, S5.out, (HP.out.draws _).below K5.out, (HO.out.draws _).trans (Only.of_below K5.out)⟩
/-- Where alt stands: behind its first part, or behind both. -/
def altS (g : Nat) (s : ByteArray) (a : Nat) (x : Value) (l1 l2 : List Nd) (w : World) (j : Nat) (v : Value) (wr : World) : Prop := (j = 0 ∧ vs wr w.heap.size 35 v [x] ∧ sT wr x l1 ∧ rpar wr g s (a + 1) ∧ Only (· = g) w wr) ∨ (j = 1 ∧ rows wr v [l1, l2] ∧ rpar wr g s (a + 3) ∧ Only (· = g) w wr)
set_option maxHeartbeats 1000000 in
set_option maxRecDepth 100000 in
theorem ralt_two {g : Nat} {s : ByteArray} {a : Nat} {c d : UInt8} (hs : s.size ≤ 1000) (P : pl s a c) (hq : isQ s (a + 1) 124 = true) (hq2 : ∀ e : Int, e = 42 ∨ e = 43 ∨ e = 63 ∨ e = 123 → isQ s (a + 1) e = false) (P2 : pl s (a + 2) d) (hn : a + 3 = s.size) {w : World} (H : Hid (rpar w g s a)) :
    Calls Try.prog 45 #[.pointer (some ⟨g, 0, none⟩)] w fun e w' => got1 g s (a + 3) (⟨4, 2, zero, 0, 0⟩ :: ([⟨1, 0, ofS [c], 0, 0⟩] ++ [⟨1, 0, ofS [d], 0, 0⟩])) w e w' := by
  have h3 : ∀ e : Int, isQ s (a + 3) e = false := fun e => by unfold isQ; rw [decide_eq_false (by omega)]; rfl
  have HC := Lib.hid (rcat hs P (.inr ⟨by omega, hq⟩) hq2 H)
  have HC2 : Hid (∀ u, rpar u g s (a + 2) → Calls Try.prog 60 #[.pointer (some ⟨g, 0, none⟩)] u fun e w' => got1 g s (a + 3) [⟨1, 0, ofS [d], 0, 0⟩] u e w') := Lib.hid (fun u h => rcat hs P2 (.inl hn) (fun d _ => h3 d) (Lib.hid h))
  obtain ⟨l1, hl1⟩ : ∃ l, l = [(⟨1, 0, ofS [c], 0, 0⟩ : Nd)] := ⟨_, rfl⟩
  obtain ⟨l2, hl2⟩ : ∃ l, l = [(⟨1, 0, ofS [d], 0, 0⟩ : Nd)] := ⟨_, rfl⟩
  have hL1 : l1.length = 1 := by rw [hl1]; rfl
  have hL2 : l2.length = 1 := by rw [hl2]; rfl
  rw [← hl1] at HC ⊢
  rw [← hl2] at HC2 ⊢
  have HTN : Hid (∀ u, rpar u g s (a + 3) → Calls Try.prog 61 #[.pointer (some ⟨g, 0, none⟩), .int .u8 124] u fun e w' => e = .returned (.bool false) ∧ ∃ n, w' = u.drewN n) := Lib.hid (fun u h => rtake_no (h3 124) (Lib.hid h))
  have HTY : Hid (∀ u, rpar u g s (a + 1) → Calls Try.prog 61 #[.pointer (some ⟨g, 0, none⟩), .int .u8 124] u fun e w' => e = .returned (.bool true) ∧ rpar w' g s (a + 2) ∧ Only (· = g) u w') := Lib.hid (fun u h => rtake_yes (by omega) hq (Lib.hid h))
  have HMM : Hid (∀ v u, rows u v [l1, l2] → Calls Try.prog 62 #[.int .i64 4, v] u fun e w' => ∃ v', e = .returned v' ∧ sT w' v' (⟨4, 2, zero, 0, 0⟩ :: (l1 ++ l2)) ∧ Below u.heap.size u w') := Lib.hid (fun v u h => rmany_two (by omega) (by omega) (Lib.hid h))
  clear hl1 hl2 hq hq2 hn P P2 h3 hL1 hL2
  go_enter Try.func45, Try.ntmps45
  go_upto_region 2 with (go_at_call 60; refine HC.out.mono ?_; rintro e w1 ⟨v1, rfl, s1, p1, o1⟩; obtain ⟨A1, n1, c1, rfl, hn1, s1⟩ := sT.form s1; have S1 := Lib.hid s1; have P1 := Lib.hid p1; have O1 := Lib.hid o1; clear s1 p1 o1 hn1)
  have HS0 : Hid (altS g s a (.slice A1 n1 c1) l1 l2 w 0 (.slice (some ⟨w1.heap.size, 0, none⟩) 1 1) (w1.alloc (.cells #[.slice A1 n1 c1] 35))) := Lib.hid (.inl ⟨rfl, vs_lit O1.out.size, S1.out.below (below_alloc _ _), P1.out.below (below_alloc _ _), O1.out.alloc _⟩)
  clear S1 P1 O1 HC
  go_loopw [3] (fun s3 wr => ∃ (j : Nat) (v : Value), s3 = v ∧ Hid (altS g s a (.slice A1 n1 c1) l1 l2 w j v wr)) (fun s3 _ => match s3 with | .slice _ 1 _ => 1 | _ => 0)
  case atStart => exact ⟨0, _, rfl, HS0⟩
  case round =>
    obtain ⟨j, v, rfl, HS⟩ := hrel
    rcases HS.out with ⟨rfl, hv, hx, hp, ho⟩ | ⟨rfl, hr, hp, ho⟩
    · obtain ⟨A2, c2, rfl, _⟩ := hv.le
      dsimp only [List.length_cons, List.length_nil, Nat.zero_add] at hv ⊢
      have HV := Lib.hid hv
      have HX := Lib.hid hx
      have HT := Lib.hid (HTY.out _ hp)
      have HVG : Hid (∀ i, (Value.slice A2 1 c2).ownBlock = some i → i ≠ g) := Lib.hid (own_apart hv hp (by decide))
      have HXG : Hid (∀ u, Only (· = g) wr u → sT u (.slice A1 n1 c1) l1) := Lib.hid (fun u k => sT.apart hx hp k)
      have HO := Lib.hid ho
      clear hv hx hp ho HS HTY HTN HMM
      go_wp2_with (first | (go_at_call 61; (with_reducible refine HT.out.mono ?_); rintro e w3 ⟨rfl, p3, o3⟩; have HC3 := Lib.hid (HC2.out _ p3); have O3 := Lib.hid o3; clear p3 o3) | (go_at_call 60; refine HC3.out.mono ?_; rintro e w4 ⟨v4, rfl, s4, p4, o4⟩; obtain ⟨A4, n4, c4, rfl, hn4, s4⟩ := sT.form s4; have S4 := Lib.hid s4; have P4 := Lib.hid p4; have O4 := Lib.hid (O3.out.trans o4); have V4 := Lib.hid (HV.out.only O4.out (fun i hi e => HVG.out i hi e)); have X4 := Lib.hid (HXG.out _ O4.out); clear s4 p4 o4 hn4) | (at_builtin; refine wpList_vsO Try.underlying22 infoSN rfl (by decide) rfl _ _ rfl (base := w.heap.size) (HO.out.trans O4.out).size (by rfl) V4.out (.slice A4 n4 c4) rfl rfl (by rfl) (by rfl) (by simp) ?_; intro v6 w6 h6 o6; have H6 := Lib.hid h6; have O6 := Lib.hid o6; clear h6 o6))
      have HE6 : Hid (altS g s a (.slice A1 n1 c1) l1 l2 w 1 v6 w6) := Lib.hid (.inr ⟨rfl, rows_two V4.out X4.out S4.out H6.out O6.out, P4.out.only O6.out (fun e => HVG.out _ e rfl), (HO.out.trans O4.out).then O6.out (fun i hi hlt => absurd (V4.out.lo i hi).1 (by omega))⟩)
      obtain ⟨A6, c6, rfl, _⟩ := H6.out.le
      go_roundw
      case rel => exact ⟨1, _, rfl, HE6⟩
      case measure => simp
    · obtain ⟨A, cap, rfl⟩ := hr.form
      have HP := Lib.hid hp
      have HO := Lib.hid ho
      have HM : Hid (∀ n, Calls Try.prog 62 #[.int .i64 4, .slice A [l1, l2].length cap] (wr.drewN n) fun e w' => ∃ v', e = .returned v' ∧ sT w' v' (⟨4, 2, zero, 0, 0⟩ :: (l1 ++ l2)) ∧ Below (wr.drewN n).heap.size (wr.drewN n) w') := Lib.hid (fun n => HMM.out _ _ (hr.below (below_draws _ _)))
      clear hr hp ho HS HTY HMM HC2
      go_wp2_with (first | (go_at_call 61; (with_reducible refine (HTN.out _ ?_).mono ?_); (exact HP.out); rintro e w3 ⟨rfl, m1, rfl⟩) | (go_at_call 62; refine (HM.out _).mono ?_; rintro e w5 ⟨v5, rfl, s5, k5⟩; have S5 := Lib.hid s5; have K5 := Lib.hid k5; clear s5 k5))
      go_ret
      exact ⟨_, rfl, S5.out, (HP.out.draws _).below K5.out, (HO.out.draws _).trans (Only.of_below K5.out)⟩
end Go.Proofs.Ythjelilmlbbalaa.Oj
namespace Go.Proofs.Ythjelilmlbbalaa.Ok
open Go.RowKit Go.PlainAid Go.Proofs.Ythjelilmlbbalaa.Vm Go.Proofs.Ythjelilmlbbalaa.Vo Go.Proofs.Ythjelilmlbbalaa.Bw Go.Proofs.Ythjelilmlbbalaa.Na Go.Proofs.Ythjelilmlbbalaa.Ko Go.Proofs.Ythjelilmlbbalaa.Tm Go.Proofs.Ythjelilmlbbalaa.Ts Go.Proofs.Ythjelilmlbbalaa.Ta Go.Proofs.Ythjelilmlbbalaa.Tb Go.Proofs.Ythjelilmlbbalaa.Tf Go.Proofs.Ythjelilmlbbalaa.Rm Go.Proofs.Ythjelilmlbbalaa.Rv Go.Proofs.Ythjelilmlbbalaa.Ra Go.Proofs.Ythjelilmlbbalaa.Rn Go.Proofs.Ythjelilmlbbalaa.Ed Go.Proofs.Ythjelilmlbbalaa.En Go.Proofs.Ythjelilmlbbalaa.Ar Go.Proofs.Ythjelilmlbbalaa.Aq Go.Proofs.Ythjelilmlbbalaa.Og Go.Proofs.Ythjelilmlbbalaa.Oh Go.Proofs.Ythjelilmlbbalaa.Oi Go.Proofs.Ythjelilmlbbalaa.Oj

set_option maxHeartbeats 1000000 in
set_option maxRecDepth 100000 in
theorem rparse {s : ByteArray} {l : List Nd} (hs : s.size ≤ 512) (hl : l.length ≤ 400) (HA : Hid (∀ g u, rpar u g s 0 → Calls Try.prog 45 #[.pointer (some ⟨g, 0, none⟩)] u fun e w' => got1 g s s.size l u e w')) (w : World) :
    Calls Try.prog 26 #[.string s] w fun e w' => ∃ v, e = .returned (.tuple #[v, .int .i64 0, .int .i64 0]) ∧ sT w' v l ∧ Below w.heap.size w w' := by
  have h1 : ¬ (512 : Int) < (s.size : Int) := by omega
  have h2 : ¬ (s.size : Int) < (s.size : Int) := by omega
  have h3 : ¬ (400 : Int) < (l.length : Int) := by omega
  have HW := Lib.hid (HA.out w.heap.size (w.alloc (.cells #[.string s, .int .i64 0, .int .i64 0, .int .i64 0] 83)) (Blk.fresh _ _ _))
  clear hs hl HA
  go_enter Try.func26, Try.ntmps26
  go_wp2_with (go_at_call 45; refine HW.out.mono ?_; rintro e w1 ⟨v1, rfl, s1, p1, o1⟩; obtain ⟨A1, n1, c1, rfl, hn1, s1⟩ := sT.form s1; have c0 := p1.c0; have c2 := p1.c2; have c1 := p1.c1; have S1 := Lib.hid s1; have O1 := Lib.hid o1; clear s1 p1 o1; rw [← hn1] at h3; clear hn1)
  go_ret3
  exact ⟨_, rfl, S1.out, O1.out.below (below_alloc _ _) (by rw [size_alloc]; omega) (fun i hi => by have : i = _ := hi; omega)⟩
theorem plB : pl ⟨#[98]⟩ 0 98 := ⟨by decide, by rfl, .inr rfl, by rfl⟩
theorem plA : pl ⟨#[97, 124, 98]⟩ 0 97 := ⟨by decide, by rfl, .inl rfl, by rfl⟩
theorem plA2 : pl ⟨#[97, 124, 98]⟩ (0 + 2) 98 := ⟨by decide, by rfl, .inr rfl, by rfl⟩
/-- The nodes of "b" and of "a|b". -/
def lB : List Nd := [⟨1, 0, ofS [98], 0, 0⟩]
def lA : List Nd := ⟨4, 2, zero, 0, 0⟩ :: ([⟨1, 0, ofS [97], 0, 0⟩] ++ [⟨1, 0, ofS [98], 0, 0⟩])
theorem rparse_b (w : World) : Calls Try.prog 26 #[.string ⟨#[98]⟩] w fun e w' => ∃ v, e = .returned (.tuple #[v, .int .i64 0, .int .i64 0]) ∧ sT w' v lB ∧ Below w.heap.size w w' :=
  rparse (by decide) (by decide) (Lib.hid (fun g u h => ralt_one (a := 0) (by decide) plB (by decide) (Lib.hid h))) w
theorem rparse_a (w : World) : Calls Try.prog 26 #[.string ⟨#[97, 124, 98]⟩] w fun e w' => ∃ v, e = .returned (.tuple #[v, .int .i64 0, .int .i64 0]) ∧ sT w' v lA ∧ Below w.heap.size w w' :=
  rparse (by decide) (by decide) (Lib.hid (fun g u h => ralt_two (a := 0) (by decide) plA (by rfl) (fun e he => by rcases he with rfl | rfl | rfl | rfl <;> rfl) plA2 (by decide) (Lib.hid h))) w
end Go.Proofs.Ythjelilmlbbalaa.Ok
namespace Go.Proofs.Ythjelilmlbbalaa.At
open Go.RowKit Go.Proofs.Ythjelilmlbbalaa.Vm Go.Proofs.Ythjelilmlbbalaa.Vo Go.Proofs.Ythjelilmlbbalaa.Bw Go.Proofs.Ythjelilmlbbalaa.Na Go.Proofs.Ythjelilmlbbalaa.Ko Go.Proofs.Ythjelilmlbbalaa.Ed Go.Proofs.Ythjelilmlbbalaa.Am Go.Proofs.Ythjelilmlbbalaa.Ap Go.Proofs.Ythjelilmlbbalaa.Ag Go.Proofs.Ythjelilmlbbalaa.Ar

theorem grdx.drew {w : World} {tB : TypeId} {g n : Nat} {b : Nat → Nat} {f : Gd} (h : grdx w tB g b n f) : grdx w.drew tB g b n f := h.draws 1
/-- So far: whole rows below p, and of row p the places below q. -/
def upTo (F G : Gd) (p q : Nat) : Gd := fun a b => if a < p ∨ (a = p ∧ b < q) then F a b else G a b
theorem upTo_next {F G : Gd} {p q : Nat} : ∀ a b, upd (upTo F G p q) p q (F p q) a b = upTo F G p (q + 1) a b := fun a b => by
  unfold upd upTo
  by_cases ha : a = p
  · subst ha
    rw [if_pos rfl]
    by_cases hb : b = q
    · subst hb; rw [if_pos rfl, if_pos (.inr ⟨rfl, by omega⟩)]
    · rw [if_neg hb]
      by_cases h : b < q
      · rw [if_pos (.inr ⟨rfl, h⟩), if_pos (.inr ⟨rfl, by omega⟩)]
      · rw [if_neg (by omega), if_neg (by omega)]
  · rw [if_neg ha]
    by_cases h : a < p
    · rw [if_pos (.inl h), if_pos (.inl h)]
    · rw [if_neg (by omega), if_neg (by omega)]
theorem upTo_row {F G : Gd} {p n : Nat} : ∀ a b, b < n → upTo F G p n a b = upTo F G (p + 1) 0 a b := fun a b hb => by
  unfold upTo
  by_cases h : a < p ∨ a = p
  · rw [if_pos (by omega), if_pos (by omega)]
  · rw [if_neg (by omega), if_neg (by omega)]
theorem upTo_zero {F G : Gd} : ∀ a b, upTo F G 0 0 a b = G a b := fun a b => by unfold upTo; rw [if_neg (by omega)]
theorem upTo_all {F G : Gd} {n : Nat} : ∀ a b, a < n → upTo F G n 0 a b = F a b := fun a b h => by unfold upTo; rw [if_pos (.inl h)]
theorem upTo_at {F G : Gd} {p q : Nat} : upTo F G p q p q = G p q := by unfold upTo; rw [if_neg (by omega)]
set_option maxHeartbeats 4000000 in
set_option maxRecDepth 100000 in
theorem either_any {n : Nat} (h0 : 0 < n) (hn : n ≤ 100000) {ga ca gb cb : Nat} {ba bb : Nat → Nat} {f g : Gd} {w : World} (HA : Hid (grdx w 4 ga ba n f)) (HC : Hid (grdx w 4 gb bb n g)) :
    Calls Try.prog 73 #[.slice (some ⟨ga, 0, none⟩) n ca, .slice (some ⟨gb, 0, none⟩) n cb] w fun e w' => ∃ v, e = .returned v ∧ grd w' 4 w.heap.size v n (orG f g) ∧ Below w.heap.size w w' := by
  have HG := Lib.hid (grid_any h0 hn w)
  go_enter Try.func73, Try.ntmps73
  go_wp2_with (go_at_call 70; refine HG.out.mono ?_; rintro e w1 ⟨v, rfl, h1, k1⟩; have HB1 := Lib.hid k1; obtain ⟨g0, cap0, b0, rfl, hcap, hg, hb, hx⟩ := h1; have HX := Lib.hid hx; have Hg := Lib.hid hg; have Hb := Lib.hid hb; clear k1 hx hg hb)
  go_loopw [6, 7] (fun s6 _ wr => ∃ p : Nat, s6 = .int .i64 (p : Int) ∧ p ≤ n ∧ Hid (grdx wr 4 g0 b0 n (upTo (orG f g) noG p 0)) ∧ Hid (Below w.heap.size w wr)) (fun s6 _ _ => n - (intOf s6).toNat)
  case atStart => exact ⟨0, rfl, by omega, Lib.hid (HX.out.congr (fun a b _ _ => (upTo_zero a b).symm)), HB1⟩
  case round =>
    obtain ⟨p, rfl, hp, HH, HB⟩ := hrel
    by_cases hpn : p < n
    · have hpn' : (p : Int) < (n : Int) := by omega
      have hp0 : (0 : Int) ≤ (p : Int) := by omega
      go_wp2
      go_loopw [7] (fun s7 wq => ∃ q : Nat, s7 = .int .i64 (q : Int) ∧ q ≤ n ∧ Hid (grdx wq 4 g0 b0 n (upTo (orG f g) noG p q)) ∧ Hid (Below w.heap.size w wq)) (fun s7 _ => n - (intOf s7).toNat)
      case atStart => exact ⟨0, rfl, by omega, HH, HB⟩
      case round =>
        obtain ⟨q, rfl, hq, HI, HD⟩ := hrel
        by_cases hqn : q < n
        · have hqn' : (q : Int) < (n : Int) := by omega
          have hq0 : (0 : Int) ≤ (q : Int) := by omega
          have r0 := HI.out.row p hpn
          have c0 := HI.out.cell hpn hqn
          have f0 := (HI.out.blk p hpn).frozen q
          have ra := (HA.out.below HD.out).row p hpn
          have ca' := (HA.out.below HD.out).cell hpn hqn
          have rb := (HC.out.below HD.out).row p hpn
          have cb' := (HC.out.below HD.out).cell hpn hqn
          have HN := Lib.hid ((HI.out.store hpn hqn (orG f g p q)).congr (fun a b _ _ => upTo_next a b))
          have HBN := Lib.hid (HD.out.setCell (p := ⟨b0 p, q, none⟩) (Hb.out p hpn) (.bool (orG f g p q)))
          obtain ⟨x, hx⟩ : ∃ x, x = f p q := ⟨_, rfl⟩
          obtain ⟨y, hy⟩ : ∃ y, y = g p q := ⟨_, rfl⟩
          have hxy : orG f g p q = (x || y) := by rw [hx, hy]; rfl
          rw [hxy] at HN HBN
          rw [← hx] at ca'
          rw [← hy] at cb'
          obtain ⟨z, hz⟩ : ∃ z, z = upTo (orG f g) noG p q p q := ⟨_, rfl⟩
          rw [← hz] at c0
          have HQ := Lib.hid hqn
          clear hx hy hxy hz hqn
          cases x <;>
          (go_wp2_with fail
           go_region
           go_wp2
           go_roundw
           case rel => exact ⟨q + 1, by go_num, by have := HQ.out; omega, Lib.hid (grdx.drew HN.out), Lib.hid (below_drew HBN.out)⟩
           case measure => have := HQ.out; simp [intOf]; omega)
        · obtain rfl : q = n := by omega
          have hqn' : ¬ (q : Int) < (q : Int) := by omega
          go_wp2
          go_roundw
          case rel => exact ⟨p + 1, by go_num, by omega, Lib.hid (HI.out.congr (fun a b _ hb => upTo_row a b hb)), HD⟩
          case measure => simp [intOf]; omega
    · obtain rfl : p = n := by omega
      have hpn' : ¬ (p : Int) < (p : Int) := by omega
      go_wp2
      go_ret
      exact ⟨_, rfl, ⟨g0, cap0, b0, rfl, hcap, Hg.out, Hb.out, HH.out.congr (fun a b ha _ => upTo_all a b ha)⟩, HB.out⟩
/-- Rows above p are A, row p is B below r and C from r on, the rows below are D. -/
def st (A B C D : Gd) (p r : Nat) : Gd := fun a b => if a < p then A a b else if a = p then (if b < r then B a b else C a b) else D a b
theorem st_next {A B C D : Gd} {p r : Nat} : ∀ a b, upd (st A B C D p r) p r (B p r) a b = st A B C D p (r + 1) a b := fun a b => by
  unfold upd st
  by_cases ha : a = p
  · subst ha
    by_cases hb : b = r
    · subst hb; simp
    · by_cases h : b < r
      · simp [hb, h, show b < r + 1 by omega]
      · simp [hb, h, show ¬ b < r + 1 by omega]
  · simp [ha]
theorem st_at {A B C D : Gd} {p r : Nat} : st A B C D p r p r = C p r := by unfold st; rw [if_neg (by omega), if_pos rfl, if_neg (by omega)]
theorem st_row {A B C D B' : Gd} {p n : Nat} : ∀ a b, b < n → st A B C D p n a b = st A B' B D p 0 a b := fun a b hb => by
  unfold st
  by_cases h1 : a < p
  · rw [if_pos h1, if_pos h1]
  · rw [if_neg h1, if_neg h1]
    by_cases h2 : a = p
    · rw [if_pos h2, if_pos h2, if_pos hb, if_neg (by omega)]
    · rw [if_neg h2, if_neg h2]
theorem st_kept {A B C D B' C' : Gd} {p : Nat} (h : ∀ b, C p b = C' p b) : ∀ a b, st A B C D p 0 a b = st A B' C' D p 0 a b := fun a b => by
  unfold st
  by_cases h1 : a < p
  · rw [if_pos h1, if_pos h1]
  · rw [if_neg h1, if_neg h1]
    by_cases h2 : a = p
    · subst h2; rw [if_pos rfl, if_pos rfl, if_neg (by omega), if_neg (by omega), h b]
    · rw [if_neg h2, if_neg h2]
theorem st_down {A B B' D C' : Gd} {p : Nat} (h : ∀ b, D (p + 1) b = C' (p + 1) b) : ∀ a b, st A B A D p 0 a b = st A B' C' D (p + 1) 0 a b := fun a b => by
  unfold st
  by_cases h1 : a < p
  · rw [if_pos h1, if_pos (by omega)]
  · rw [if_neg h1]
    by_cases h2 : a = p
    · subst h2; rw [if_pos rfl, if_neg (by omega), if_pos (by omega)]
    · rw [if_neg h2, if_neg (by omega)]
      by_cases h3 : a = p + 1
      · subst h3; rw [if_pos rfl, if_neg (by omega), h b]
      · rw [if_neg h3]
theorem st_done {A B C D : Gd} {n : Nat} : ∀ a b, a < n → st A B C D n 0 a b = A a b := fun a b h => by unfold st; rw [if_pos h]
theorem st_first {A B D : Gd} : ∀ a b, st A B D D 0 0 a b = D a b := fun a b => by
  unfold st
  rw [if_neg (by omega)]
  split
  · rw [if_neg (by omega)]
  · rfl
set_option maxHeartbeats 4000000 in
set_option maxRecDepth 100000 in
theorem then_any {n : Nat} (h0 : 0 < n) (hn : n ≤ 100000) {ga ca gb cb : Nat} {ba bb : Nat → Nat} {f g : Gd} {w : World} (HA : Hid (grdx w 4 ga ba n f)) (HC : Hid (grdx w 4 gb bb n g)) :
    Calls Try.prog 72 #[.slice (some ⟨ga, 0, none⟩) n ca, .slice (some ⟨gb, 0, none⟩) n cb] w fun e w' => ∃ v, e = .returned v ∧ grd w' 4 w.heap.size v n (thn f g n) ∧ Below w.heap.size w w' := by
  have HG := Lib.hid (grid_any h0 hn w)
  have hn0 : (0 : Int) < (n : Int) := by omega
  go_enter Try.func72, Try.ntmps72
  go_wp2_with (go_at_call 70; refine HG.out.mono ?_; rintro e w1 ⟨v, rfl, h1, k1⟩; have HB1 := Lib.hid k1; obtain ⟨g0, cap0, b0, rfl, hcap, hg, hb, hx⟩ := h1; have HX := Lib.hid hx; have Hg := Lib.hid hg; have Hb := Lib.hid hb; clear k1 hx hg hb)
  go_loopw [6, 7, 8] (fun s6 _ _ wr => ∃ p : Nat, s6 = .int .i64 (p : Int) ∧ p ≤ n ∧ Hid (grdx wr 4 g0 b0 n (st (thn f g n) noG noG noG p 0)) ∧ Hid (Below w.heap.size w wr)) (fun s6 _ _ _ => n - (intOf s6).toNat)
  case atStart => exact ⟨0, rfl, by omega, Lib.hid (HX.out.congr (fun a b _ _ => (st_first a b).symm)), HB1⟩
  case round =>
    obtain ⟨p, rfl, hp, HH, HB⟩ := hrel
    by_cases hpn : p < n
    · have hpn' : (p : Int) < (n : Int) := by omega
      have hp0 : (0 : Int) ≤ (p : Int) := by omega
      go_wp2
      go_loopw [7, 8] (fun s7 _ wq => ∃ q : Nat, s7 = .int .i64 (q : Int) ∧ q ≤ n ∧ Hid (grdx wq 4 g0 b0 n (st (thn f g n) noG (thn f g q) noG p 0)) ∧ Hid (Below w.heap.size w wq)) (fun s7 _ _ => n - (intOf s7).toNat)
      case atStart => exact ⟨0, rfl, by omega, Lib.hid (HH.out.congr (fun a b _ _ => st_kept (fun _ => rfl) a b)), HB⟩
      case round =>
        obtain ⟨q, rfl, hq, HI, HD⟩ := hrel
        by_cases hqn : q < n
        · have hqn' : (q : Int) < (n : Int) := by omega
          have hq0 : (0 : Int) ≤ (q : Int) := by omega
          have HPN := Lib.hid hpn
          have HQN := Lib.hid hqn
          obtain ⟨x, hx⟩ : ∃ x, x = f p q := ⟨_, rfl⟩
          have HXX := Lib.hid hx
          clear hx hpn hqn
          cases x with
          | false =>
            go_wp2
            go_loopw [8] (fun s8 wz => s8 = .int .i64 0 ∧ Hid (grdx wz 4 g0 b0 n (st (thn f g n) noG (thn f g q) noG p 0)) ∧ Hid (Below w.heap.size w wz)) (fun _ _ => 0)
            case atStart => exact ⟨rfl, HI, HD⟩
            case round =>
              obtain ⟨rfl, HJ, HE⟩ := hrel
              have ra := (HA.out.below HE.out).row p HPN.out
              have ca' := (HA.out.below HE.out).cell HPN.out HQN.out
              rw [← HXX.out] at ca'
              go_wp2
              go_roundw
              case rel => exact ⟨q + 1, by go_num, by have := HQN.out; omega, Lib.hid (HJ.out.congr (fun a b _ _ => st_kept (fun b => by rw [thn, ← HXX.out]; simp) a b)), HE⟩
              case measure => have := HQN.out; simp [intOf]; omega
          | true =>
            go_wp2
            go_loopw [8] (fun s8 wz => ∃ r : Nat, s8 = .int .i64 (r : Int) ∧ r ≤ n ∧ Hid (grdx wz 4 g0 b0 n (st (thn f g n) (thn f g (q + 1)) (thn f g q) noG p r)) ∧ Hid (Below w.heap.size w wz)) (fun s8 _ => n - (intOf s8).toNat)
            case atStart => exact ⟨0, rfl, by omega, Lib.hid (HI.out.congr (fun a b _ _ => st_kept (fun _ => rfl) a b)), HD⟩
            case round =>
              obtain ⟨r, rfl, hr, HJ, HE⟩ := hrel
              by_cases hrn : r < n
              · have hrn' : (r : Int) < (n : Int) := by omega
                have hr0 : (0 : Int) ≤ (r : Int) := by omega
                have ra := (HA.out.below HE.out).row p HPN.out
                have ca' := (HA.out.below HE.out).cell HPN.out HQN.out
                rw [← HXX.out] at ca'
                have rb := (HC.out.below HE.out).row q HQN.out
                have cb' := (HC.out.below HE.out).cell HQN.out hrn
                have r0 := HJ.out.row p HPN.out
                have c0 := HJ.out.cell HPN.out hrn
                rw [st_at] at c0
                have f0 := (HJ.out.blk p HPN.out).frozen r
                have HN := Lib.hid ((HJ.out.store HPN.out hrn (thn f g (q + 1) p r)).congr (fun a b _ _ => st_next a b))
                have HBN := Lib.hid (HE.out.setCell (p := ⟨b0 p, r, none⟩) (Hb.out p HPN.out) (.bool (thn f g (q + 1) p r)))
                have hxy : thn f g (q + 1) p r = (thn f g q p r || g q r) := by rw [thn, ← HXX.out]; simp
                rw [hxy] at HN HBN
                obtain ⟨y, hy⟩ : ∃ y, y = g q r := ⟨_, rfl⟩
                obtain ⟨z, hz⟩ : ∃ z, z = thn f g q p r := ⟨_, rfl⟩
                rw [← hy] at HN HBN cb'
                rw [← hz] at HN HBN c0
                have HR := Lib.hid hrn
                clear hy hz hxy hrn
                cases z <;>
                (go_wp2_with fail
                 go_region
                 go_wp2
                 go_roundw
                 case rel => exact ⟨r + 1, by go_num, by have := HR.out; omega, Lib.hid (grdx.drew HN.out), Lib.hid (below_drew HBN.out)⟩
                 case measure => have := HR.out; simp [intOf]; omega)
              · obtain rfl : r = n := by omega
                have hrn' : ¬ (r : Int) < (r : Int) := by omega
                go_wp2
                go_roundw
                case rel => exact ⟨q + 1, by go_num, by have := HQN.out; omega, Lib.hid (HJ.out.congr (fun a b _ hb => st_row a b hb)), HE⟩
                case measure => have := HQN.out; simp [intOf]; omega
        · obtain rfl : q = n := by omega
          have hqn' : ¬ (q : Int) < (q : Int) := by omega
          go_wp2
          go_roundw
          case rel => exact ⟨p + 1, by go_num, by omega, Lib.hid (HI.out.congr (fun a b _ _ => st_down (fun _ => rfl) a b)), HD⟩
          case measure => simp [intOf]; omega
    · obtain rfl : p = n := by omega
      have hpn' : ¬ (p : Int) < (p : Int) := by omega
      go_wp2
      go_ret
      exact ⟨_, rfl, ⟨g0, cap0, b0, rfl, hcap, Hg.out, Hb.out, HH.out.congr (fun a b ha _ => st_done a b ha)⟩, HB.out⟩
theorem war_zero {f : Gd} : ∀ a b, orG f sameG a b = war f 0 a b := fun _ _ => rfl
theorem war_pq (f : Gd) (p q : Nat) : war f (q + 1) p q = war f q p q := by
  rw [war]
  cases war f q p q <;> simp
theorem st_pq {f : Gd} {q p r : Nat} : st (war f (q + 1)) (war f (q + 1)) (war f q) (war f q) p r p q = war f q p q := by
  unfold st
  rw [if_neg (by omega), if_pos rfl]
  split
  · exact war_pq f p q
  · rfl
theorem st_qr {f : Gd} {q p r : Nat} : st (war f (q + 1)) (war f (q + 1)) (war f q) (war f q) p r q r = war f q q r := by
  unfold st
  split
  · exact war_row f q r
  · split
    · next h => rw [if_neg (by omega)]
    · rfl
set_option maxHeartbeats 4000000 in
set_option maxRecDepth 100000 in
theorem often_any {n : Nat} (h0 : 0 < n) (hn : n ≤ 100000) {ga ca : Nat} {ba : Nat → Nat} {f : Gd} {w : World} (HA : Hid (grdx w 4 ga ba n f)) :
    Calls Try.prog 89 #[.slice (some ⟨ga, 0, none⟩) n ca] w fun e w' => ∃ v, e = .returned v ∧ grd w' 4 w.heap.size v n (war f n) ∧ Below w.heap.size w w' := by
  have HS := Lib.hid (same_any h0 hn w)
  have HEI : Hid (∀ (x : World) g2 b2 c2, grdx x 4 ga ba n f → grdx x 4 g2 b2 n sameG → Calls Try.prog 73 #[.slice (some ⟨ga, 0, none⟩) n ca, .slice (some ⟨g2, 0, none⟩) n c2] x fun e w' => ∃ v, e = .returned v ∧ grd w' 4 x.heap.size v n (orG f sameG) ∧ Below x.heap.size x w') := Lib.hid (fun x g2 b2 c2 h1 h2 => either_any h0 hn (Lib.hid h1) (Lib.hid h2))
  go_enter Try.func89, Try.ntmps89
  go_wp2_with (first | (go_at_call 71; refine HS.out.mono ?_; rintro e w1 ⟨v, rfl, h1, k1⟩; have HB1 := Lib.hid k1; obtain ⟨g1, cap1, b1, rfl, _, _, _, hx⟩ := h1; have HX1 := Lib.hid hx; clear k1 hx) | (go_at_call 73; refine (HEI.out _ _ _ _ (HA.out.below HB1.out) HX1.out).mono ?_; rintro e w2 ⟨v, rfl, h1, k1⟩; have HB2 := Lib.hid (grows HB1.out k1); have hms := h1.mono HB1.out.size; obtain ⟨g0, cap0, b0, rfl, hcap, hg, hb, hx⟩ := hms; have HX := Lib.hid hx; have Hg := Lib.hid hg; have Hb := Lib.hid hb; clear k1 hx hg hb h1))
  go_loopw [4, 5, 6] (fun s4 _ _ wr => ∃ q : Nat, s4 = .int .i64 (q : Int) ∧ q ≤ n ∧ Hid (grdx wr 4 g0 b0 n (war f q)) ∧ Hid (Below w.heap.size w wr)) (fun s4 _ _ _ => n - (intOf s4).toNat)
  case atStart => exact ⟨0, rfl, by omega, HX, HB2⟩
  case round =>
    obtain ⟨q, rfl, hq, HH, HB⟩ := hrel
    by_cases hqn : q < n
    · have hqn' : (q : Int) < (n : Int) := by omega
      have hq0 : (0 : Int) ≤ (q : Int) := by omega
      have HQN := Lib.hid hqn
      go_wp2
      go_loopw [5, 6] (fun s5 _ wq => ∃ p : Nat, s5 = .int .i64 (p : Int) ∧ p ≤ n ∧ Hid (grdx wq 4 g0 b0 n (st (war f (q + 1)) (war f (q + 1)) (war f q) (war f q) p 0)) ∧ Hid (Below w.heap.size w wq)) (fun s5 _ _ => n - (intOf s5).toNat)
      case atStart => exact ⟨0, rfl, by omega, Lib.hid (HH.out.congr (fun a b _ _ => (st_first a b).symm)), HB⟩
      case round =>
        obtain ⟨p, rfl, hp, HI, HD⟩ := hrel
        by_cases hpn : p < n
        · have hpn' : (p : Int) < (n : Int) := by omega
          have hp0 : (0 : Int) ≤ (p : Int) := by omega
          have HPN := Lib.hid hpn
          obtain ⟨x, hx⟩ : ∃ x, x = war f q p q := ⟨_, rfl⟩
          have HXX := Lib.hid hx
          clear hx hpn hqn
          cases x with
          | false =>
            go_wp2
            go_loopw [6] (fun s6 wz => s6 = .int .i64 0 ∧ Hid (grdx wz 4 g0 b0 n (st (war f (q + 1)) (war f (q + 1)) (war f q) (war f q) p 0)) ∧ Hid (Below w.heap.size w wz)) (fun _ _ => 0)
            case atStart => exact ⟨rfl, HI, HD⟩
            case round =>
              obtain ⟨rfl, HJ, HE⟩ := hrel
              have hn0 : (0 : Int) < (n : Int) := by omega
              have ra := HJ.out.row p HPN.out
              have ca' := HJ.out.cell HPN.out HQN.out
              rw [st_pq, ← HXX.out] at ca'
              go_wp2
              go_roundw
              case rel => exact ⟨p + 1, by go_num, by have := HPN.out; omega, Lib.hid ((HJ.out.congr (fun a b _ _ => st_kept (C' := war f (q + 1)) (B' := war f (q + 1)) (fun b => by rw [war, ← HXX.out]; simp) a b)).congr (fun a b _ _ => st_down (fun _ => rfl) a b)), HE⟩
              case measure => have := HPN.out; simp [intOf]; omega
          | true =>
            go_wp2
            go_loopw [6] (fun s6 wz => ∃ r : Nat, s6 = .int .i64 (r : Int) ∧ r ≤ n ∧ Hid (grdx wz 4 g0 b0 n (st (war f (q + 1)) (war f (q + 1)) (war f q) (war f q) p r)) ∧ Hid (Below w.heap.size w wz)) (fun s6 _ => n - (intOf s6).toNat)
            case atStart => exact ⟨0, rfl, by omega, HI, HD⟩
            case round =>
              obtain ⟨r, rfl, hr, HJ, HE⟩ := hrel
              by_cases hrn : r < n
              · have hrn' : (r : Int) < (n : Int) := by omega
                have hr0 : (0 : Int) ≤ (r : Int) := by omega
                have ra := HJ.out.row p HPN.out
                have ca' := HJ.out.cell HPN.out HQN.out
                rw [st_pq, ← HXX.out] at ca'
                have rb := HJ.out.row q HQN.out
                have cb' := HJ.out.cell HQN.out hrn
                rw [st_qr] at cb'
                have c0 := HJ.out.cell HPN.out hrn
                rw [st_at] at c0
                have f0 := (HJ.out.blk p HPN.out).frozen r
                have HN := Lib.hid ((HJ.out.store HPN.out hrn (war f (q + 1) p r)).congr (fun a b _ _ => st_next a b))
                have HBN := Lib.hid (HE.out.setCell (p := ⟨b0 p, r, none⟩) (Hb.out p HPN.out) (.bool (war f (q + 1) p r)))
                have hxy : war f (q + 1) p r = (war f q p r || war f q q r) := by rw [war, ← HXX.out]; simp
                rw [hxy] at HN HBN
                obtain ⟨y, hy⟩ : ∃ y, y = war f q q r := ⟨_, rfl⟩
                obtain ⟨z, hz⟩ : ∃ z, z = war f q p r := ⟨_, rfl⟩
                rw [← hy] at HN HBN cb'
                rw [← hz] at HN HBN c0
                have HR := Lib.hid hrn
                clear hy hz hxy hrn
                cases z <;>
                (go_wp2_with fail
                 go_region
                 go_wp2
                 go_roundw
                 case rel => exact ⟨r + 1, by go_num, by have := HR.out; omega, Lib.hid (grdx.drew HN.out), Lib.hid (below_drew HBN.out)⟩
                 case measure => have := HR.out; simp [intOf]; omega)
              · obtain rfl : r = n := by omega
                have hrn' : ¬ (r : Int) < (r : Int) := by omega
                go_wp2
                go_roundw
                case rel => exact ⟨p + 1, by go_num, by have := HPN.out; omega, Lib.hid ((HJ.out.congr (fun a b _ hb => st_row (B' := war f (q + 1)) a b hb)).congr (fun a b _ _ => st_down (fun _ => rfl) a b)), HE⟩
                case measure => have := HPN.out; simp [intOf]; omega
        · obtain rfl : p = n := by omega
          have hpn' : ¬ (p : Int) < (p : Int) := by omega
          go_wp2
          go_roundw
          case rel => exact ⟨q + 1, by go_num, by omega, Lib.hid (HI.out.congr (fun a b ha _ => st_done a b ha)), HD⟩
          case measure => simp [intOf]; omega
    · obtain rfl : q = n := by omega
      have hqn' : ¬ (q : Int) < (q : Int) := by omega
      go_wp2
      go_ret
      exact ⟨_, rfl, ⟨g0, cap0, b0, rfl, hcap, Hg.out, Hb.out, HH.out⟩, HB.out⟩
end Go.Proofs.Ythjelilmlbbalaa.At
namespace Go.Proofs.Ythjelilmlbbalaa.Au
open Go.RowKit Go.Proofs.Ythjelilmlbbalaa.Vm Go.Proofs.Ythjelilmlbbalaa.Vo Go.Proofs.Ythjelilmlbbalaa.Bw Go.Proofs.Ythjelilmlbbalaa.Na Go.Proofs.Ythjelilmlbbalaa.Ko Go.Proofs.Ythjelilmlbbalaa.Ed Go.Proofs.Ythjelilmlbbalaa.Am Go.Proofs.Ythjelilmlbbalaa.Ap Go.Proofs.Ythjelilmlbbalaa.Ag Go.Proofs.Ythjelilmlbbalaa.Ar Go.Proofs.Ythjelilmlbbalaa.At

set_option maxHeartbeats 4000000 in
set_option maxRecDepth 100000 in
theorem times_any {n : Nat} (h0 : 0 < n) (hn : n ≤ 100000) {ga ca : Nat} {ba : Nat → Nat} {f : Gd} {lo : Nat} {hi : Int} (hlo : lo ≤ 1000) (hh1 : -1 ≤ hi) (hh2 : hi ≤ 1000) {w : World} (HA : Hid (grdx w 4 ga ba n f)) :
    Calls Try.prog 74 #[.slice (some ⟨ga, 0, none⟩) n ca, .int .i64 (lo : Int), .int .i64 hi] w fun e w' => ∃ v, e = .returned v ∧ grd w' 4 w.heap.size v n (timesG n f lo hi) ∧ Below w.heap.size w w' := by
  have HS : Hid (∀ x : World, Calls Try.prog 71 #[.int .i64 (n : Int)] x fun e w' => ∃ v, e = .returned v ∧ grd w' 4 x.heap.size v n sameG ∧ Below x.heap.size x w') := Lib.hid (fun x => same_any h0 hn x)
  have HTH : Hid (∀ (x : World) g1 b1 c1 F g2 b2 c2 G, grdx x 4 g1 b1 n F → grdx x 4 g2 b2 n G → Calls Try.prog 72 #[.slice (some ⟨g1, 0, none⟩) n c1, .slice (some ⟨g2, 0, none⟩) n c2] x fun e w' => ∃ v, e = .returned v ∧ grd w' 4 x.heap.size v n (thn F G n) ∧ Below x.heap.size x w') := Lib.hid (fun x g1 b1 c1 F g2 b2 c2 G h1 h2 => then_any h0 hn (Lib.hid h1) (Lib.hid h2))
  have HOF : Hid (∀ x : World, grdx x 4 ga ba n f → Calls Try.prog 89 #[.slice (some ⟨ga, 0, none⟩) n ca] x fun e w' => ∃ v, e = .returned v ∧ grd w' 4 x.heap.size v n (war f n) ∧ Below x.heap.size x w') := Lib.hid (fun x h => often_any h0 hn (Lib.hid h))
  have HEI : Hid (∀ (x : World) g2 b2 c2, grdx x 4 ga ba n f → grdx x 4 g2 b2 n sameG → Calls Try.prog 73 #[.slice (some ⟨ga, 0, none⟩) n ca, .slice (some ⟨g2, 0, none⟩) n c2] x fun e w' => ∃ v, e = .returned v ∧ grd w' 4 x.heap.size v n (orG f sameG) ∧ Below x.heap.size x w') := Lib.hid (fun x g2 b2 c2 h1 h2 => either_any h0 hn (Lib.hid h1) (Lib.hid h2))
  go_enter Try.func74, Try.ntmps74
  go_wp2_with (go_at_call 71; refine (HS.out _).mono ?_; rintro e w1 ⟨v1, rfl, h1, k1⟩; have HB1 := Lib.hid k1; have HG1 := Lib.hid h1; obtain ⟨g1, c1, b1, rfl, _⟩ := h1; clear k1)
  go_loopw [7, 8] (fun s7 s8 wr => ∃ (k : Nat) (v : Value), s7 = v ∧ s8 = .int .i64 (k : Int) ∧ k ≤ lo ∧ Hid (grd wr 4 w.heap.size v n (lowG n f k)) ∧ Hid (Below w.heap.size w wr)) (fun _ s8 _ => lo - (intOf s8).toNat)
  case atStart => exact ⟨0, _, rfl, rfl, by omega, HG1, HB1⟩
  case round =>
    obtain ⟨k, v, rfl, rfl, hk, HG, HB⟩ := hrel
    obtain ⟨g2, c2, b2, hv, _, _, _, hx2⟩ := HG.out
    subst hv
    have HX2 := Lib.hid hx2
    clear hx2
    by_cases hkn : k < lo
    · have hkn' : (k : Int) < (lo : Int) := by omega
      have HKN := Lib.hid hkn
      clear hkn
      go_wp2_with (go_at_call 72; refine (HTH.out _ _ _ _ _ _ _ _ _ HX2.out (HA.out.below HB.out)).mono ?_; rintro e w3 ⟨v3, rfl, h3, k3⟩; have HB3 := Lib.hid (grows HB.out k3); have HG3 := Lib.hid (h3.mono HB.out.size); obtain ⟨g3, c3, b3, rfl, _⟩ := h3; clear k3)
      go_roundw
      case rel => exact ⟨k + 1, _, rfl, by go_num, by have := HKN.out; omega, HG3, HB3⟩
      case measure => have := HKN.out; simp [intOf]; omega
    · obtain rfl : k = lo := by omega
      have hkn' : ¬ (k : Int) < (k : Int) := by omega
      by_cases h9 : hi < 0
      · have HQ : Hid (timesG n f k hi = thn (lowG n f k) (war f n) n) := Lib.hid (by unfold timesG; rw [if_pos h9])
        go_wp2_with (first | (go_at_call 89; refine (HOF.out _ (HA.out.below HB.out)).mono ?_; rintro e w3 ⟨v3, rfl, h3, k3⟩; have HB3 := Lib.hid (grows HB.out k3); have HX3 := Lib.hid (HX2.out.below k3); obtain ⟨g3, c3, b3, rfl, _, _, _, hx3⟩ := h3; have HY3 := Lib.hid hx3; clear k3 hx3) | (go_at_call 72; refine (HTH.out _ _ _ _ _ _ _ _ _ HX3.out HY3.out).mono ?_; rintro e w4 ⟨v4, rfl, h4, k4⟩; have HB4 := Lib.hid (grows HB3.out k4); have HG4 := Lib.hid (h4.mono HB3.out.size); obtain ⟨g4, c4, b4, rfl, _⟩ := h4; clear k4))
        go_ret
        exact ⟨_, rfl, by rw [HQ.out]; exact HG4.out, HB4.out⟩
      · obtain ⟨m, hm⟩ := Int.eq_ofNat_of_zero_le (show 0 ≤ hi by omega)
        subst hm
        have HQ : Hid (timesG n f k (m : Int) = moreG n (lowG n f k) f (m - k)) := Lib.hid (by unfold timesG; rw [if_neg h9, Int.toNat_natCast])
        have h9' : ¬ (m : Int) < 0 := by omega
        clear h9
        go_wp2
        go_loopw [7, 9] (fun s7 s9 wq => ∃ (j : Nat) (v : Value), s7 = v ∧ s9 = .int .i64 ((k + j : Nat) : Int) ∧ j ≤ m - k ∧ Hid (grd wq 4 w.heap.size v n (moreG n (lowG n f k) f j)) ∧ Hid (Below w.heap.size w wq)) (fun _ s9 _ => m - (intOf s9).toNat)
        case atStart => exact ⟨0, _, rfl, rfl, by omega, HG, HB⟩
        case round =>
          obtain ⟨j, v, rfl, rfl, hj, HH, HD⟩ := hrel
          obtain ⟨g5, c5, b5, hv, _, _, _, hx5⟩ := HH.out
          subst hv
          have HX5 := Lib.hid hx5
          clear hx5
          obtain ⟨q, hq⟩ : ∃ q, q = k + j := ⟨_, rfl⟩
          rw [← hq]
          by_cases hjn : q < m
          · have hjn' : (q : Int) < (m : Int) := by omega
            have HJN : Hid (j + 1 ≤ m - k ∧ q + 1 = k + (j + 1) ∧ q < m) := Lib.hid (by omega)
            clear hjn hq hj
            go_wp2_with (first | (go_at_call 71; refine (HS.out _).mono ?_; rintro e w6 ⟨v6, rfl, h6, k6⟩; have HD6 := Lib.hid (grows HD.out k6); have HX6 := Lib.hid (HX5.out.below k6); obtain ⟨g6, c6, b6, rfl, _, _, _, hx6⟩ := h6; have HY6 := Lib.hid hx6; clear k6 hx6) | (go_at_call 73; refine (HEI.out _ _ _ _ (HA.out.below HD6.out) HY6.out).mono ?_; rintro e w7 ⟨v7, rfl, h7, k7⟩; have HD7 := Lib.hid (grows HD6.out k7); have HX7 := Lib.hid (HX6.out.below k7); obtain ⟨g7, c7, b7, rfl, _, _, _, hx7⟩ := h7; have HY7 := Lib.hid hx7; clear k7 hx7) | (go_at_call 72; refine (HTH.out _ _ _ _ _ _ _ _ _ HX7.out HY7.out).mono ?_; rintro e w8 ⟨v8, rfl, h8, k8⟩; have HD8 := Lib.hid (grows HD7.out k8); have HG8 := Lib.hid (h8.mono HD7.out.size); obtain ⟨g8, c8, b8, rfl, _⟩ := h8; clear k8))
            go_roundw
            case rel => exact ⟨j + 1, _, rfl, by rw [← HJN.out.2.1]; go_num, HJN.out.1, HG8, HD8⟩
            case measure => have := HJN.out.2.2; simp [intOf]; omega
          · have hjn' : ¬ (q : Int) < (m : Int) := by omega
            have HJ : Hid (j = m - k) := Lib.hid (by omega)
            clear hjn hq hj
            go_wp2
            go_ret
            exact ⟨_, rfl, by rw [HQ.out, ← HJ.out]; exact HH.out, HD.out⟩
end Go.Proofs.Ythjelilmlbbalaa.Au
