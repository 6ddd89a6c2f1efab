/-
  The reference's Kids: the places of a node's children, in a row of the call's own.
  Trees at places of a list of nodes: where each child stands.
  Rows of values of one cell that a call makes (slices of slices, slices of strings); slices of nodes as values.
  Tables of truths in memory (layer 17): a row of rows, each in a block of its own.
  The reference's Right (layer 17): whether an automaton can be.
  The reference's Ints of equal rows, and put: a number put in its place, once (layer 17).
  The reference's Closure (layer 17): where free edges lead.
  The reference's Step (layer 17): where a byte leads.
  The reference's Empty: which trees match the empty text.
  The reference's size and Weight of a tree (layer 17).
  The program's children: the trees below a tree's first node.
  Rows of nodes that a call makes; the program's above, one and join.
  Conditions: as each theorem says.
-/
import Derived.Test.YthjelilmlbbalaaPal
import Derived.Test.YthjelilmlbbalaaPam
import Derived.Deep.LoopGhost
import Derived.Test.YthjelilmlbbalaaPaf
import Derived.Maps.AppendAt
import Derived.Test.YthjelilmlbbalaaPaj
import Derived.Test.YthjelilmlbbalaaPad
import Derived.Test.YthjelilmlbbalaaPak
import Derived.Test.YthjelilmlbbalaaPai
import Derived.Deep.DeepCutAuto
import Derived.BigQuiet
import Derived.Deep.QuietTactic
import Derived.BigRegion
namespace Go.Proofs.Ythjelilmlbbalaa.Rk
open Go.RowKit Go.Proofs.Ythjelilmlbbalaa.Vm Go.Proofs.Ythjelilmlbbalaa.Vo Go.Proofs.Ythjelilmlbbalaa.Bw Go.Proofs.Ythjelilmlbbalaa.Na Go.Proofs.Ythjelilmlbbalaa.Ko Go.Proofs.Ythjelilmlbbalaa.Rm Go.Proofs.Ythjelilmlbbalaa.Rv Go.Proofs.Ythjelilmlbbalaa.Ra Go.Proofs.Ythjelilmlbbalaa.Re

theorem infoI : (Try.prog.info? 3).map (fun i => (i.zero, i.size, i.bytes)) = some (some (.int .i64 0), 1, 8) := by kernel_rfl
/-- Places one behind the other, each where the tree ahead of it ends. -/
def kidsM (l : List Nd) : Nat → Int → List Int
  | 0, _ => []
  | c + 1, a => a :: kidsM l c (endI l a)
theorem kidsM_length (l : List Nd) : ∀ c a, (kidsM l c a).length = c
  | 0, _ => rfl
  | c + 1, a => by rw [kidsM, List.length_cons, kidsM_length l c]
theorem endW_le {N : Nat} : ∀ {l : List Nd} {w m : Nat}, endW N l w = some m → m ≤ l.length
  | [], w, m, h => by cases h
  | x :: l, w, m, h => by
    rw [endW] at h
    split at h
    · cases h
    · split at h
      · obtain rfl := Option.some.inj h; simp
      · cases e : endW N l (w - 1 + x.n.toNat) with
        | none => rw [e] at h; cases h
        | some q =>
          rw [e] at h
          have h' : q + 1 = m := Option.some.inj h
          have := endW_le e
          rw [List.length_cons]; omega
/-- An end lies within the list. -/
theorem endI_in (l : List Nd) (i : Int) : -1 ≤ endI l i ∧ endI l i ≤ (l.length : Int) := by
  unfold endI
  split
  · omega
  · cases e : endW l.length (l.drop i.toNat) 1 with
    | none => show -1 ≤ (-1 : Int) ∧ (-1 : Int) ≤ _; omega
    | some m =>
      have h := endW_le e
      rw [List.length_drop] at h
      show -1 ≤ i + (m : Int) ∧ i + (m : Int) ≤ _
      by_cases hm : m = 0
      · subst hm
        exfalso
        cases hd : l.drop i.toNat with
        | nil => rw [hd] at e; cases e
        | cons x r =>
          rw [hd, endW] at e
          split at e
          · cases e
          · split at e
            · cases e
            · cases e2 : endW l.length r (1 - 1 + x.n.toNat) with
              | none => rw [e2] at e; cases e
              | some q => rw [e2] at e; cases e
      · omega

set_option maxHeartbeats 2000000 in
set_option maxRecDepth 100000 in
theorem rKids_any {A : Option Addr} {cap i K : Nat} {l : List Nd} {x : Nd} (hl : l.length ≤ 1000000) (hx : l[i]? = some x) (hK : x.n = (K : Int)) (hK1 : K ≤ 1000000) {w : World} (H : Hid (nds w A l)) :
    Calls Try.prog 44 #[.slice A l.length cap, .int .i64 (i : Int)] w fun e w' => ∃ v, e = .returned v ∧ ints w' w.heap.size 3 v (kidsM l K ((i : Int) + 1)) ∧ Below w.heap.size w w' := by
  have HEnd : Hid (∀ w, nds w A l → ∀ a : Int, a ≤ 9223372036854775807 → Calls Try.prog 42 #[.slice A l.length cap, .int .i64 a] w fun e w' => e = .returned (.int .i64 (endI l a)) ∧ w = w') := Lib.hid (fun w h a ha => rEnd_any hl a ha (Lib.hid h))
  have HIN := Lib.hid (endI_in l)
  obtain ⟨b, off, rfl, hb, hp⟩ := H.out _ x hx
  have hc := hp.c1
  rw [hK] at hc
  have hi : i < l.length := (List.getElem?_eq_some_iff.1 hx).1
  obtain ⟨N, hN⟩ : ∃ N, N = l.length := ⟨_, rfl⟩
  rw [← hN] at HEnd HIN hi hl
  rw [← hN]
  obtain ⟨i0, hii, hz0, hz1, hz2⟩ := info_parts infoI
  obtain ⟨KK, hKK⟩ : ∃ KK, KK = kidsM l K ((i : Int) + 1) := ⟨_, rfl⟩
  rw [← hKK]
  have HKK := Lib.hid hKK
  have hi0 : (0 : Int) ≤ (i : Int) := by omega
  have hi' : (i : Int) < (N : Int) := by omega
  have HC := Lib.hid hc
  have HBB := Lib.hid hb
  clear hp hx hN hKK hc hb
  go_enter Try.func44, Try.ntmps44
  go_wp2
  go_loopw [5, 6, 7] (fun s5 s6 s7 wr => ∃ (k : Nat) (v5 : Value) (a : Int) (X : List Int), s5 = v5 ∧ s6 = .int .i64 a ∧ s7 = .int .i64 (k : Int) ∧ k ≤ K ∧ Hid (-1 ≤ a ∧ a ≤ 1000000) ∧ Hid (X.length = k) ∧ Hid (X ++ kidsM l (K - k) a = KK) ∧ Hid (ints wr w.heap.size 3 v5 X) ∧ Hid (Below w.heap.size w wr)) (fun _ _ s7 _ => K - (intOf s7).toNat)
  case atStart => exact ⟨0, _, (i : Int) + 1, [], rfl, rfl, rfl, by omega, Lib.hid (by omega), Lib.hid rfl, Lib.hid (by rw [HKK.out]; rfl), Lib.hid (ints_nil _ _ _), Lib.hid (Below.refl _ _)⟩
  case round =>
    obtain ⟨k, v5, a, X, rfl, rfl, rfl, hk, HAA, HXL, HXX, HI, HB⟩ := hrel
    have c1 := (HB.out.cell (p := ⟨b, off + i * 8 + 1, none⟩) HBB.out).trans HC.out
    obtain ⟨A5, c5, hv5⟩ := HI.out.form
    rw [HXL.out] at hv5
    subst hv5
    have HOn : Hid (wr.ownsRow w.heap.size 3 1 (.slice A5 k c5) k (Is X)) := Lib.hid (by have h := HI.out; unfold ints at h; rw [HXL.out] at h; exact h)
    by_cases hkn : k < K
    · have hkn' : (k : Int) < (K : Int) := by omega
      have HKN := Lib.hid hkn
      have HS := Lib.hid HB.out.size
      have HNX : Hid ((X ++ [a]) ++ kidsM l (K - (k + 1)) (endI l a) = KK) := Lib.hid (by
        rw [← HXX.out, show K - k = (K - (k + 1)) + 1 by omega, kidsM, List.append_assoc]; rfl)
      clear hkn
      go_wp2_with (at_builtin; refine wpList_append_own_at _ rfl _ _ 26 rfl w.heap.size 3 i0 (.int .i64 0) 1 8 Try.underlying26 hii hz0 hz1 hz2 rfl (by decide) _ k (Is X) rfl (HOn.out.alloc _) ⟨wr.heap.size, 0, none⟩ 1 1 [.int .i64 a] rfl rfl (cell_one_new _ _ _) ?a2 ?a3 ?a4 ?a5 ?_)
      case a2 => intro q hq; simp at hq; subst hq; rfl
      case a3 => unfold maxLen; omega
      case a4 => omega
      case a5 => have := HS.out; rw [size_alloc]; omega
      intro v3 w3 h3 g3 _ _
      rw [← HXL.out] at h3
      obtain ⟨k1, k2⟩ := ints_snoc (w := w) (Nat.le_refl _) HB.out HI.out h3 g3
      have K1 := Lib.hid k1
      have K2 := Lib.hid k2
      have HE3 : Hid (Calls Try.prog 42 #[.slice (some ⟨b, off, none⟩) N cap, .int .i64 a] w3 fun e w' => e = .returned (.int .i64 (endI l a)) ∧ w3 = w') := Lib.hid (HEnd.out w3 (H.out.below K2.out) a (by have := HAA.out; omega))
      obtain ⟨a', ha'⟩ : ∃ a', a' = endI l a := ⟨_, rfl⟩
      rw [← ha'] at HE3 HNX
      have HA' : Hid (-1 ≤ a' ∧ a' ≤ 1000000) := Lib.hid (by have := HIN.out a; rw [← ha'] at this; omega)
      clear h3 g3 k1 k2 c1 ha'
      go_wp2_with (go_at_call 42; refine HE3.out.mono ?_; rintro e w9 ⟨rfl, rfl⟩)
      go_roundw
      case rel => exact ⟨k + 1, _, a', X ++ [a], rfl, rfl, by go_num, by have := HKN.out; omega, HA', Lib.hid (by rw [List.length_append, HXL.out]; rfl), HNX, K1, K2⟩
      case measure => have := HKN.out; simp [intOf]; omega
    · obtain rfl : k = K := by omega
      have hkn' : ¬ (k : Int) < (k : Int) := by omega
      have HXK : Hid (X = KK) := Lib.hid (by have h := HXX.out; rw [Nat.sub_self, kidsM, List.append_nil] at h; exact h)
      go_wp2
      go_ret
      exact ⟨_, rfl, by rw [← HXK.out]; exact HI.out, HB.out⟩
end Go.Proofs.Ythjelilmlbbalaa.Rk
namespace Go.Proofs.Ythjelilmlbbalaa.Rn
open Go.Proofs.Ythjelilmlbbalaa.Tm Go.Proofs.Ythjelilmlbbalaa.Ts Go.Proofs.Ythjelilmlbbalaa.Ta Go.Proofs.Ythjelilmlbbalaa.Rm Go.Proofs.Ythjelilmlbbalaa.Rv Go.Proofs.Ythjelilmlbbalaa.Ra Go.Proofs.Ythjelilmlbbalaa.Rk

/-- A tree stands at a place. -/
def tat (l : List Nd) (p : Nat) (t : T) : Prop := ∃ r, l.drop p = enc t ++ r
theorem tat_zero (t : T) : tat (enc t) 0 t := ⟨[], by simp⟩
/-- A tree's children. -/
def kidsT : T → List T
  | .set _ => []
  | .emp => []
  | .cat l => l
  | .alt l => l
  | .star t => [t]
  | .plus t => [t]
  | .opt t => [t]
  | .rep _ _ t => [t]
/-- A tree's first node. -/
def hd : T → Nd
  | .set a => ⟨1, 0, a, 0, 0⟩
  | .emp => ⟨2, 0, zero, 0, 0⟩
  | .cat l => ⟨3, l.length, zero, 0, 0⟩
  | .alt l => ⟨4, l.length, zero, 0, 0⟩
  | .star _ => ⟨5, 1, zero, 0, 0⟩
  | .plus _ => ⟨6, 1, zero, 0, 0⟩
  | .opt _ => ⟨7, 1, zero, 0, 0⟩
  | .rep lo hi _ => ⟨8, 1, zero, lo, hi⟩
theorem encs_one (t : T) : encs [t] = enc t := by rw [encs, encs, List.append_nil]
theorem enc_hd (t : T) : enc t = hd t :: encs (kidsT t) := by
  cases t <;> simp only [kidsT, hd, encs_one] <;> rw [enc] <;> simp only [encs]
theorem hd_n (t : T) : (hd t).n = ((kidsT t).length : Int) := by cases t <;> rfl
theorem tat.le {l : List Nd} {p : Nat} {t : T} (h : tat l p t) : p + (enc t).length ≤ l.length := by
  obtain ⟨r, e⟩ := h
  have h1 := congrArg List.length e
  have h2 := enc_pos t
  rw [List.length_drop, List.length_append] at h1
  omega
theorem tat.node {l : List Nd} {p : Nat} {t : T} (h : tat l p t) : l[p]? = some (hd t) := by
  obtain ⟨r, e⟩ := h
  have h1 : (l.drop p)[0]? = some (hd t) := by rw [e, enc_hd]; rfl
  rw [List.getElem?_drop, Nat.add_zero] at h1
  exact h1
theorem tat.tail {l : List Nd} {p : Nat} {t : T} (h : tat l p t) : ∃ r, l.drop (p + 1) = encs (kidsT t) ++ r := by
  obtain ⟨r, e⟩ := h
  refine ⟨r, ?_⟩
  rw [← List.drop_drop, e, enc_hd]
  rfl
/-- Where it ends. -/
theorem tat.end {l : List Nd} {p : Nat} {t : T} (h : tat l p t) : endI l (p : Int) = ((p + (enc t).length : Nat) : Int) := by
  have hl := h.le
  obtain ⟨r, e⟩ := h
  unfold endI
  rw [if_neg (by omega), Int.toNat_natCast, e, endW_enc _ t r 0 (by omega), if_pos rfl]
  show (p : Int) + _ = _
  omega
theorem kid_at {l : List Nd} : ∀ (ts : List T) (q : Nat) (r : List Nd), l.drop q = encs ts ++ r → ∀ (j : Nat) (t : T), ts[j]? = some t → ∃ q' : Nat, (kidsM l ts.length (q : Int))[j]? = some (q' : Int) ∧ tat l q' t
  | [], _, _, _, j, t, h => by simp at h
  | u :: ts, q, r, e, j, t, h => by
    rw [encs, List.append_assoc] at e
    have hu : tat l q u := ⟨_, e⟩
    rw [List.length_cons, kidsM, hu.end]
    cases j with
    | zero =>
      obtain rfl : u = t := by simpa using h
      exact ⟨q, rfl, hu⟩
    | succ j =>
      rw [List.getElem?_cons_succ] at h
      rw [List.getElem?_cons_succ]
      refine kid_at ts (q + (enc u).length) r ?_ j t h
      rw [← List.drop_drop, e, List.drop_left]
/-- A child's place. -/
theorem tat.kid {l : List Nd} {p : Nat} {t u : T} (h : tat l p t) {j : Nat} (hj : (kidsT t)[j]? = some u) : ∃ q : Nat, (kidsM l (kidsT t).length ((p : Int) + 1))[j]? = some (q : Int) ∧ tat l q u := by
  obtain ⟨r, e⟩ := h.tail
  have := kid_at (kidsT t) (p + 1) r e j u hj
  rw [show ((p + 1 : Nat) : Int) = (p : Int) + 1 by omega] at this
  exact this
theorem enc_mem : ∀ {ts : List T} {u : T}, u ∈ ts → (enc u).length ≤ (encs ts).length
  | [], u, h => by simp at h
  | t :: ts, u, h => by
    rw [encs, List.length_append]
    rcases List.mem_cons.1 h with rfl | h
    · omega
    · have := enc_mem h; omega
theorem kid_less {t u : T} (h : u ∈ kidsT t) : (enc u).length < (enc t).length := by
  have := enc_mem h
  rw [enc_hd t, List.length_cons]; omega
end Go.Proofs.Ythjelilmlbbalaa.Rn
namespace Go.Proofs.Ythjelilmlbbalaa.Ed
open Go.RowKit Go.Proofs.Ythjelilmlbbalaa.Vm Go.Proofs.Ythjelilmlbbalaa.Vo Go.Proofs.Ythjelilmlbbalaa.Bw Go.Proofs.Ythjelilmlbbalaa.Na Go.Proofs.Ythjelilmlbbalaa.Ko Go.Proofs.Ythjelilmlbbalaa.Tm Go.Proofs.Ythjelilmlbbalaa.Ta Go.Proofs.Ythjelilmlbbalaa.Tb Go.Proofs.Ythjelilmlbbalaa.Td Go.Proofs.Ythjelilmlbbalaa.Tf Go.Proofs.Ythjelilmlbbalaa.Rm Go.Proofs.Ythjelilmlbbalaa.Rv Go.Proofs.Ythjelilmlbbalaa.Ra Go.Proofs.Ythjelilmlbbalaa.Rk Go.Proofs.Ythjelilmlbbalaa.Rn

/-- A row of values of the call's own. -/
def vs (w : World) (base : Nat) (e : TypeId) (v : Value) (l : List Value) : Prop := w.ownsRow base e 1 v l.length l
section
variable {w w' : World} {base : Nat} {e : TypeId} {v : Value} {l : List Value}
theorem vs_nil (w : World) (base : Nat) (e : TypeId) : vs w base e (.slice none 0 0) [] := World.ownsRow_nil _ _ _ _
theorem vs.draws (h : vs w base e v l) (n : Nat) : vs (w.drewN n) base e v l := h
theorem vs.only {S : Nat → Prop} (h : vs w base e v l) (k : Only S w w') (hv : ∀ i, v.ownBlock = some i → ¬ S i) : vs w' base e v l := own_only h k hv
theorem vs.below (h : vs w base e v l) (k : Below w.heap.size w w') : vs w' base e v l := h.only (S := fun _ => False) (Only.of_below k) (fun _ _ e => e)
theorem vs.le (h : vs w base e v l) : ∃ A cap, v = .slice A l.length cap ∧ l.length ≤ cap := by
  rcases h.2 with ⟨rfl, h0⟩ | ⟨g, cap, _, rfl, _, _, hc, _⟩
  · exact ⟨none, 0, by rw [h0], by omega⟩
  · exact ⟨_, cap, rfl, hc⟩
theorem vs.lo (h : vs w base e v l) : ∀ i, v.ownBlock = some i → base ≤ i ∧ i < w.heap.size := fun i hi => World.ownsRow.lt h i hi
theorem vs.cell {A : Option Addr} {n cap : Nat} (h : vs w base e (.slice A n cap) l) {j : Nat} {x : Value} (hj : l[j]? = some x) : ∃ g, A = some ⟨g, 0, none⟩ ∧ g < w.heap.size ∧ w.cell? ⟨g, j, none⟩ = some x := by
  rcases h.2 with ⟨e0, h0⟩ | ⟨g, c', cur, e1, hbl, hh, _⟩
  · have := (List.getElem?_eq_some_iff.1 hj).1
    have e0' : l.length = 0 := by first | exact h0 | (rw [h0]; rfl)
    omega
  · injection e1 with e1 _ _
    subst e1
    refine ⟨g, rfl, (World.ownsRow.lt h g rfl).2, ?_⟩
    have cc := World.ownsRow.cells (g := g) h rfl j x hj
    rw [show (⟨g, 0, none⟩ : Addr).add j = ⟨g, j, none⟩ by unfold Addr.add; split <;> simp_all] at cc
    exact cc
theorem vs_lit {e : TypeId} {x : Value} (hb : base ≤ w.heap.size) : vs (w.alloc (.cells #[x] e)) base e (.slice (some ⟨w.heap.size, 0, none⟩) 1 1) [x] :=
  World.ownsRow_lit w #[x] 1 hb (by unfold maxLen; omega) (by simp)
end
/-- A slice of nodes, as a value. -/
def sl (w : World) (v : Value) (l : List Nd) : Prop := ∃ A cap, v = .slice A l.length cap ∧ l.length ≤ cap ∧ nds w A l
theorem sl.below {w w' : World} {v : Value} {l : List Nd} (h : sl w v l) (k : Below w.heap.size w w') : sl w' v l := by
  obtain ⟨A, cap, e, hc, hn⟩ := h
  exact ⟨A, cap, e, hc, hn.below k⟩
theorem sl.one {w : World} {v : Value} {l : List Nd} (h : sl w v l) : v.oneCell' = true := by
  obtain ⟨A, cap, rfl, _⟩ := h
  rfl
theorem infoSN : (Try.prog.info? 35).map (fun i => (i.zero, i.size, i.bytes)) = some (some (.slice none 0 0), 1, 24) := by kernel_rfl
theorem infoST : (Try.prog.info? 9).map (fun i => (i.zero, i.size, i.bytes)) = some (some (.string ⟨#[]⟩), 1, 16) := by kernel_rfl
/-- 'append(v, x)', x in a cell of its own. -/
theorem wpList_vs {t e : TypeId} (ht : Try.prog.underlying t = some (.slice e)) {z : Value} {by' : Nat} (hinf : (Try.prog.info? e).map (fun i => (i.zero, i.size, i.bytes)) = some (some z, 1, by')) (hz : z.cells.size = 1) (hby : by' ≤ 1000)
    {ops : Array Oper} {rest : List Oper} {o : Oper} {a : Act} {Q : Exit → Act → World → Prop} (hgd : o.guard = none) (s x : Operand)
    (ho : o.op = .call { callee := .builtin .append, args := #[s, x], argTypes := #[t, t] }) {base : Nat} {W w : World} (HB : Below base W w) (hbW : base ≤ W.heap.size)
    {v : Value} {l : List Value} (hs : a.eval s = v) (hown : vs w base e v l) (c : Value) (hc : c.oneCell' = true) {m k : Nat} (hm : m = 1) (hx : a.eval x = .slice (some ⟨w.heap.size, 0, none⟩) m k)
    (hlen : l.length ≤ 1000000000)
    (h : ∀ v' w', vs w' base e v' (l ++ [c]) → Below base W w' → wpList Try.prog ops Q rest (a.put o.dst v') w') : wpList Try.prog ops Q (o :: rest) a (w.alloc (.cells #[c] e)) := by
  obtain ⟨i0, hi, hz0, hz1, hz2⟩ := info_parts hinf
  have hsz := HB.size
  have hmul : (l.length + 1) * by' ≤ (l.length + 1) * 1000 := Nat.mul_le_mul_left _ hby
  refine wpList_append_own_at _ hgd s x t ho base e i0 z 1 by' ht hi hz0 hz1 hz2 hz (by decide) v l.length l hs (World.ownsRow.alloc hown _) ⟨w.heap.size, 0, none⟩ m k [c] hx (by rw [hm]; rfl) (cell_one_new _ _ _) (by intro u hu; simp at hu; subst hu; exact hc) (by unfold maxLen; omega) (by rw [hm]; omega) (by rw [size_alloc]; omega) (fun v' w' h2 h3 _ _ => h v' w' ?_ ?_)
  · have : w'.ownsRow base e 1 v' (l ++ [c]).length (l ++ [c]) := by
      rw [List.length_append, show [c].length = m by rw [hm]; rfl]; exact h2
    exact this
  · exact (HB.alloc (by omega) _).grown h3 (by simp; omega) (fun k hk => (vs.lo hown k hk).1)
/-- A part of a list of nodes. -/
theorem cut_nodes {b off n cap lo hi : Nat} (h1 : lo < hi) (h2 : hi ≤ n) (h3 : n ≤ cap) (u : World) :
    (Instr.slice 35 (.slice (some ⟨b, off, none⟩) n cap) (some (.int .i64 (lo : Int))) (some (.int .i64 (hi : Int))) none).run Try.prog u = .ok (.slice (some ⟨b, off + lo * 8, none⟩) (hi - lo) (cap - lo)) u := by
  have c8 : ∀ w, (Go.sizeOf 79).run Try.prog w = .ok 8 w := fun w => by first | exact Try.sizeOf79 w | kernel_rfl
  have g1 : (0 : Int) ≤ (lo : Int) := by omega
  have g2 : (lo : Int) ≤ (hi : Int) := by omega
  have g3 : (hi : Int) ≤ (cap : Int) := by omega
  have g4 : ¬ (cap = lo) := by omega
  have e : (⟨b, off, none⟩ : Addr).add (lo * 8) = ⟨b, off + lo * 8, none⟩ := by unfold Addr.add; split <;> simp_all
  go_simp
  first | done | simp [e] | (simp [g4, e])
/-- .. as a law at the operation. -/
theorem wpList_cutN {w : World} {ops : Array Oper} {rest : List Oper} {o : Oper} {a : Act} {Q : Exit → Act → World → Prop} (hgd : o.guard = none) (y i j : Operand) (ho : o.op = .slice 35 y (some i) (some j) none)
    (V I J R : Value) (hV : a.eval y = V) (hI : a.eval i = I) (hJ : a.eval j = J) (hr : ∀ u : World, (Instr.slice 35 V (some I) (some J) none).run Try.prog u = .ok R u) (h : wpList Try.prog ops Q rest (a.put o.dst R) w) : wpList Try.prog ops Q (o :: rest) a w := by
  refine wpList_plain hgd fun K hK => ?_
  have e : (Instr.sliceAt 35 V (some I) (some J) none).run Try.prog w = .ok R w := by
    rw [← hr w]; simp [Instr.sliceAt, run_underlying Try.underlying35]
  unfold Oper.wp execOp
  simp only [ho, Sem.run_bind, Sem.run_pure, Result.andThen_ok, hV, hI, hJ, Option.map_some, Option.map_none, e]
  exact hK _ _ h
theorem nds.part {w : World} {A : Option Addr} {l m : List Nd} {p : Nat} {r : List Nd} (h : nds w A l) (e : l.drop p = m ++ r) : ∀ b off, A = some ⟨b, off, none⟩ → nds w (some ⟨b, off + p * 8, none⟩) m := fun b off hA i x hi => by
  have h1 : l[p + i]? = some x := by
    rw [← List.getElem?_drop, e, List.getElem?_append_left (List.getElem?_eq_some_iff.1 hi).1]; exact hi
  obtain ⟨b', off', hA', hb, hp⟩ := h (p + i) x h1
  rw [hA] at hA'
  injection hA' with hA'
  injection hA' with e1 e2 _
  subst e1; subst e2
  refine ⟨b, off + p * 8, rfl, hb, ?_⟩
  rw [show off + p * 8 + i * 8 = off + (p + i) * 8 by omega]
  exact hp
/-- Is it so of one of the first n. -/
def anyP (p : Nat → Bool) : Nat → Bool
  | 0 => false
  | n + 1 => anyP p n || p n
theorem anyP_no {p : Nat → Bool} : ∀ {n}, (∀ j, j < n → p j = false) → anyP p n = false
  | 0, _ => rfl
  | n + 1, h => by rw [anyP, anyP_no (fun j hj => h j (by omega)), h n (by omega)]; rfl
theorem anyP_yes {p : Nat → Bool} : ∀ {n j}, j < n → p j = true → anyP p n = true
  | 0, j, h, _ => absurd h (by omega)
  | n + 1, j, h, hj => by
    rw [anyP]
    rcases (show j < n ∨ j = n by omega) with h | rfl
    · rw [anyP_yes h hj]; rfl
    · rw [hj, Bool.or_true]
theorem anyP_false {p : Nat → Bool} : ∀ {n}, anyP p n = false → ∀ j, j < n → p j = false := fun {n} h j hj => by
  cases e : p j with
  | false => rfl
  | true => rw [anyP_yes hj e] at h; cases h
end Go.Proofs.Ythjelilmlbbalaa.Ed
namespace Go.Proofs.Ythjelilmlbbalaa.Ag
open Go.RowKit Go.Proofs.Ythjelilmlbbalaa.Bw Go.Proofs.Ythjelilmlbbalaa.Na Go.Proofs.Ythjelilmlbbalaa.Ed Go.Proofs.Ythjelilmlbbalaa.Am Go.Proofs.Ythjelilmlbbalaa.Ap

/-- Cells of n truths. -/
def bls (n : Nat) (f : Nat → Bool) : Array Value := Array.ofFn (n := n) fun i => .bool (f i.val)
theorem bls_size (n : Nat) (f : Nat → Bool) : (bls n f).size = n := by simp [bls]
theorem bls_get {n : Nat} (f : Nat → Bool) {i : Nat} (h : i < n) : (bls n f)[i]? = some (.bool (f i)) := by simp [bls, h]
theorem bls_congr {n : Nat} {f g : Nat → Bool} (h : ∀ i, i < n → f i = g i) : bls n f = bls n g := by
  apply Array.ext
  · simp [bls]
  · intro i h1 h2
    simp [bls] at h1
    simp [bls, h i h1]
theorem bls_set (n : Nat) (f : Nat → Bool) (k : Nat) (v : Bool) : (bls n f).setIfInBounds k (.bool v) = bls n (fun i => if i = k then v else f i) := by
  apply Array.ext
  · simp [bls]
  · intro i h1 h2
    have hi : i < (bls n f).size := by simpa using h1
    rw [Array.getElem_setIfInBounds hi]
    by_cases h : i = k
    · subst h; simp [bls]
    · rw [if_neg (fun e => h e.symm)]; simp [bls, h]
/-- One truth is another one. -/
def upd (f : Gd) (p q : Nat) (x : Bool) : Gd := fun a b => if a = p then (if b = q then x else f a b) else f a b
/-- Rows of n truths, in blocks of their own. -/
structure grdx (w : World) (tB : TypeId) (g : Nat) (b : Nat → Nat) (n : Nat) (f : Gd) : Prop where
  gl : g < w.heap.size
  row : ∀ p, p < n → w.cell? ⟨g, p, none⟩ = some (.slice (some ⟨b p, 0, none⟩) n n)
  blk : ∀ p, p < n → Blk w (b p) tB (bls n (f p))
  ne : ∀ p, p < n → b p ≠ g
  inj : ∀ p q, p < n → q < n → b p = b q → p = q
section
variable {w w' : World} {tB : TypeId} {g : Nat} {b : Nat → Nat} {n : Nat} {f f' : Gd}
theorem grdx.cell (h : grdx w tB g b n f) {p q : Nat} (hp : p < n) (hq : q < n) : w.cell? ⟨b p, q, none⟩ = some (.bool (f p q)) := by
  rw [(h.blk p hp).cell, bls_get _ hq]
theorem grdx.below (h : grdx w tB g b n f) (k : Below w.heap.size w w') : grdx w' tB g b n f :=
  ⟨Nat.lt_of_lt_of_le h.gl k.size, fun p hp => (k.cell (p := ⟨g, p, none⟩) h.gl).trans (h.row p hp), fun p hp => (h.blk p hp).below k, h.ne, h.inj⟩
theorem grdx.draws (h : grdx w tB g b n f) (m : Nat) : grdx (w.drewN m) tB g b n f := h.below (below_draws w m)
theorem grdx.congr (h : grdx w tB g b n f) (e : ∀ p q, p < n → q < n → f p q = f' p q) : grdx w tB g b n f' :=
  { h with blk := fun p hp => by rw [← bls_congr (fun i hi => e p i hp hi)]; exact h.blk p hp }
theorem cell_other {a a' : Addr} {u : Value} (h : a.block ≠ a'.block) : (w.setCell a' u).cell? a = w.cell? a := by
  unfold World.cell?
  rw [Below.heap_setCell _ _ _ _ h]
theorem grdx.store (h : grdx w tB g b n f) {p q : Nat} (hp : p < n) (_hq : q < n) (x : Bool) : grdx (w.setCell ⟨b p, q, none⟩ (.bool x)) tB g b n (upd f p q x) := by
  refine ⟨by simp [World.setCell]; exact h.gl, fun k hk => ?_, fun k hk => ?_, h.ne, h.inj⟩
  · rw [cell_other (fun e => h.ne p hp e.symm)]; exact h.row k hk
  · by_cases e : k = p
    · subst e
      have := (h.blk k hk).store q (.bool x)
      rw [bls_set] at this
      rw [bls_congr (g := fun i => if i = q then x else f k i) (fun i _ => by unfold upd; rw [if_pos rfl])]
      exact this
    · rw [bls_congr (g := f k) (fun i _ => by unfold upd; rw [if_neg e])]
      exact (h.blk k hk).apartStore (fun eb => e (h.inj k p hk hp eb))
theorem grdx.stays (h : grdx w tB g b n f) {a : Addr} (ha : g ≠ a.block) (hb : ∀ p, p < n → b p ≠ a.block) (u : Value) : grdx (w.setCell a u) tB g b n f :=
  ⟨by simp [World.setCell]; exact h.gl, fun k hk => by rw [cell_other ha]; exact h.row k hk, fun k hk => (h.blk k hk).apartStore (hb k hk), h.ne, h.inj⟩
end
/-- A table as a value, all of it made since the heap was so long. -/
def grd (w : World) (tB : TypeId) (base : Nat) (v : Value) (n : Nat) (f : Gd) : Prop := ∃ g cap b, v = .slice (some ⟨g, 0, none⟩) n cap ∧ n ≤ cap ∧ base ≤ g ∧ (∀ p, p < n → base ≤ b p) ∧ grdx w tB g b n f
theorem grd.below {w w' : World} {tB : TypeId} {base n : Nat} {v : Value} {f : Gd} (h : grd w tB base v n f) (k : Below w.heap.size w w') : grd w' tB base v n f := by
  obtain ⟨g, cap, b, e, hc, h1, h2, hx⟩ := h
  exact ⟨g, cap, b, e, hc, h1, h2, hx.below k⟩
theorem grd.congr {w : World} {tB : TypeId} {base n : Nat} {v : Value} {f f' : Gd} (h : grd w tB base v n f) (e : ∀ p q, p < n → q < n → f p q = f' p q) : grd w tB base v n f' := by
  obtain ⟨g, cap, b, e1, hc, h1, h2, hx⟩ := h
  exact ⟨g, cap, b, e1, hc, h1, h2, hx.congr e⟩
theorem grd.mono {w : World} {tB : TypeId} {base base' n : Nat} {v : Value} {f : Gd} (h : grd w tB base v n f) (hb : base' ≤ base) : grd w tB base' v n f := by
  obtain ⟨g, cap, b, e1, hc, h1, h2, hx⟩ := h
  exact ⟨g, cap, b, e1, hc, Nat.le_trans hb h1, fun p hp => Nat.le_trans hb (h2 p hp), hx⟩
end Go.Proofs.Ythjelilmlbbalaa.Ag
namespace Go.Proofs.Ythjelilmlbbalaa.Ax
open Go.RowKit Go.Proofs.Ythjelilmlbbalaa.Bw Go.Proofs.Ythjelilmlbbalaa.Na Go.Proofs.Ythjelilmlbbalaa.Ko Go.Proofs.Ythjelilmlbbalaa.Tm Go.Proofs.Ythjelilmlbbalaa.Tf Go.Proofs.Ythjelilmlbbalaa.Tj Go.Proofs.Ythjelilmlbbalaa.Rm Go.Proofs.Ythjelilmlbbalaa.Ra Go.Proofs.Ythjelilmlbbalaa.An Go.Proofs.Ythjelilmlbbalaa.Ac Go.Proofs.Ythjelilmlbbalaa.Aa

/-- An edge is right, among k states. -/
def okE (k : Nat) (e : Eg) : Prop := 0 ≤ e.to ∧ e.to < (k : Int) ∧ (e.free = true → e.s = zero)
theorem okA_of {A : Au} (h1 : 1 ≤ A.E.length) (h2 : A.E.length ≤ 3000) (h3 : A.R.length = A.E.length) (h4 : 0 ≤ A.first) (h5 : A.first < (A.E.length : Int))
    (h : ∀ a, a < A.E.length → (-1 ≤ at0 A.R a ∧ at0 A.R a ≤ 31) ∧ ∀ l, A.E[a]? = some l → ∀ e ∈ l, okE A.E.length e) : okA A :=
  ⟨h1, h2, h3, h4, h5, fun x hx => by
    obtain ⟨a, ha⟩ := List.mem_iff_getElem?.1 hx
    have hl := (List.getElem?_eq_some_iff.1 ha).1
    rw [at0_get hl] at ha
    have := (h a (by omega)).1
    rw [Option.some.inj ha] at this
    exact this, fun l hl e he => by
    obtain ⟨a, ha⟩ := List.mem_iff_getElem?.1 hl
    exact (h a (List.getElem?_eq_some_iff.1 ha).1).2 l ha e he⟩
theorem not_iff_false {p : Prop} (h : ¬ p) : (false = true ↔ p) := ⟨fun k => (by cases k), fun k => absurd k h⟩
theorem is_iff_true {p : Prop} (h : p) : (true = true ↔ p) := ⟨fun _ => h, fun _ => rfl⟩
/-- A truth is answered. -/
def ansB (p : Prop) (w : World) (e : Ending) (w' : World) : Prop := ∃ b, e = .returned (.bool b) ∧ (b = true ↔ p) ∧ Below w.heap.size w w'
set_option maxHeartbeats 4000000 in
set_option maxRecDepth 100000 in
theorem rRight_any {A : Au} (hE : A.E.length ≤ 1000000) (hM : A.R.length ≤ 1000000) (hrow : ∀ l ∈ A.E, l.length ≤ 1000000) {A1 A2 : Option Addr} {c1 c2 : Nat} {w : World} (H : Hid (nfa w A1 A2 A)) :
    Calls Try.prog 13 #[.agg #[.slice A1 A.E.length c1, .int .i64 A.first, .slice A2 A.R.length c2]] w fun e w' => ansB (okA A) w e w' := by
  have HROW := Lib.hid hrow
  have HF := Lib.hid H.out.i
  obtain ⟨K, hK⟩ : ∃ K, K = A.E.length := ⟨_, rfl⟩
  obtain ⟨M, hMM⟩ : ∃ M, M = A.R.length := ⟨_, rfl⟩
  obtain ⟨F, hF⟩ : ∃ F, F = A.first := ⟨_, rfl⟩
  have HKE := Lib.hid hK
  have HME := Lib.hid hMM
  have HFE := Lib.hid hF
  rw [← hK] at hE ⊢
  rw [← hMM] at hM ⊢
  rw [← hF]
  obtain ⟨w1, hw1⟩ : ∃ w1, w1 = w.alloc (.cells #[.slice A1 K c1, .int .i64 F, .slice A2 M c2] 28) := ⟨_, rfl⟩
  have B1 : Hid (Below w.heap.size w w1) := Lib.hid (by rw [hw1]; exact below_alloc _ _)
  have K1 : Hid (Blk w1 w.heap.size 28 #[.slice A1 K c1, .int .i64 F, .slice A2 M c2]) := Lib.hid (by rw [hw1]; exact Blk.fresh _ _ _)
  have d0 : w1.cell? ⟨w.heap.size, 0, none⟩ = some (.slice A1 K c1) := K1.out.cell 0
  have d1 : w1.cell? ⟨w.heap.size, 1, none⟩ = some (.int .i64 F) := K1.out.cell 1
  have d2 : w1.cell? ⟨w.heap.size, 2, none⟩ = some (.slice A2 M c2) := K1.out.cell 2
  clear hK hMM hF hrow
  by_cases h1 : K < 1
  · have g1 : (K : Int) < 1 := by omega
    have HX : Hid (¬ okA A) := Lib.hid (fun k => by have := k.lo; have := HKE.out; omega)
    clear h1
    go_enter Try.func13, Try.ntmps13
    go_upto_region 1 with fail
    rw [← hw1]
    clear hw1
    go_wp2
    go_ret
    exact ⟨_, rfl, not_iff_false HX.out, B1.out⟩
  · have g1 : ¬ (K : Int) < 1 := by omega
    have H1 := Lib.hid h1
    by_cases h2 : 3000 < K
    · have g2 : (3000 : Int) < (K : Int) := by omega
      have HX : Hid (¬ okA A) := Lib.hid (fun k => by have := k.hi; have := HKE.out; omega)
      clear h1 h2
      go_enter Try.func13, Try.ntmps13
      go_upto_region 1 with fail
      rw [← hw1]
      clear hw1
      go_wp2
      go_ret
      exact ⟨_, rfl, not_iff_false HX.out, B1.out⟩
    · have g2 : ¬ (3000 : Int) < (K : Int) := by omega
      have H2 := Lib.hid h2
      by_cases h3 : M = K
      · subst h3
        by_cases h4 : F < 0
        · have HX : Hid (¬ okA A) := Lib.hid (fun k => by have := k.f0; have := HFE.out; omega)
          clear h1 h2
          go_enter Try.func13, Try.ntmps13
          go_upto_region 1 with fail
          rw [← hw1]
          clear hw1
          go_wp2
          go_ret
          exact ⟨_, rfl, not_iff_false HX.out, B1.out⟩
        · by_cases h5 : (M : Int) ≤ F
          · have HX : Hid (¬ okA A) := Lib.hid (fun k => by have := k.f1; have := HFE.out; have := HKE.out; omega)
            clear h1 h2
            go_enter Try.func13, Try.ntmps13
            go_upto_region 1 with fail
            rw [← hw1]
            clear hw1
            go_wp2
            go_ret
            exact ⟨_, rfl, not_iff_false HX.out, B1.out⟩
          · have H4 := Lib.hid h4
            have H5 := Lib.hid h5
            clear h1 h2
            go_enter Try.func13, Try.ntmps13
            go_upto_region 1 with fail
            rw [← hw1]
            clear hw1
            go_wp2
            clear d0 d1 d2 g1 g2 h4 h5
            go_loopw [4, 5, 6] (fun s4 _ _ wr => ∃ i : Nat, s4 = .int .i64 (i : Int) ∧ i ≤ M ∧ Hid (∀ a, a < i → (-1 ≤ at0 A.R a ∧ at0 A.R a ≤ 31) ∧ ∀ l, A.E[a]? = some l → ∀ e ∈ l, okE M e) ∧ Hid (Below w1.heap.size w1 wr)) (fun s4 _ _ _ => M - (intOf s4).toNat)
            case atStart => exact ⟨0, rfl, by omega, Lib.hid (fun a ha => absurd ha (by omega)), Lib.hid (Below.refl _ _)⟩
            case round =>
              obtain ⟨i, rfl, hi, HA, HB⟩ := hrel
              have d0 := (HB.out.cell (p := ⟨w.heap.size, 0, none⟩) K1.out.lt).trans (K1.out.cell 0)
              have d2 := (HB.out.cell (p := ⟨w.heap.size, 2, none⟩) K1.out.lt).trans (K1.out.cell 2)
              by_cases hiN : i < M
              · have hiN' : (i : Int) < (M : Int) := by omega
                have hi0 : (0 : Int) ≤ (i : Int) := by omega
                have HIN := Lib.hid hiN
                have HBW := Lib.hid (grows B1.out HB.out)
                obtain ⟨b2, o2, rfl, hb2, hr⟩ := (H.out.r.below HBW.out) i (by rw [← HME.out]; exact hiN)
                obtain ⟨r, hre⟩ : ∃ r, r = at0 A.R i := ⟨_, rfl⟩
                rw [← hre] at hr
                have HRE := Lib.hid hre
                obtain ⟨l, hl⟩ : ∃ l, A.E[i]? = some l := ⟨_, List.getElem?_eq_getElem (by rw [← HKE.out]; exact hiN)⟩
                have HL := Lib.hid hl
                obtain ⟨b1, o1, rfl, hb1, A', c', hrow, hlc, hed⟩ := (H.out.e.below HBW.out) i l hl
                have HED := Lib.hid hed
                have hll : l.length ≤ 1000000 := HROW.out l (List.mem_of_getElem? hl)
                have HRC := Lib.hid hrow
                have HB1 := Lib.hid hb1
                clear hre hl hiN hed hb2 hb1
                obtain ⟨X, hX⟩ : ∃ X, X = l.length := ⟨_, rfl⟩
                have HXL := Lib.hid hX
                rw [← hX] at hrow hll HRC
                clear hX hlc
                by_cases q1 : r < -1
                · have HX : Hid (¬ okA A) := Lib.hid (fun k => by
                    have := k.r _ (List.mem_of_getElem? (at0_get (l := A.R) (i := i) (by rw [← HME.out]; exact HIN.out)))
                    rw [← HRE.out] at this
                    omega)
                  go_wp2
                  go_ret
                  exact ⟨_, rfl, not_iff_false HX.out, HBW.out⟩
                · by_cases q2 : 31 < r
                  · have HX : Hid (¬ okA A) := Lib.hid (fun k => by
                      have := k.r _ (List.mem_of_getElem? (at0_get (l := A.R) (i := i) (by rw [← HME.out]; exact HIN.out)))
                      rw [← HRE.out] at this
                      omega)
                    go_wp2
                    go_ret
                    exact ⟨_, rfl, not_iff_false HX.out, HBW.out⟩
                  · have HQ : Hid (-1 ≤ at0 A.R i ∧ at0 A.R i ≤ 31) := Lib.hid (by rw [← HRE.out]; omega)
                    go_wp2
                    clear d0 d2 hr q1 q2 hrow
                    go_loopw [5, 6] (fun s5 _ wz => ∃ j : Nat, s5 = .int .i64 (j : Int) ∧ j ≤ X ∧ Hid (∀ b e, b < j → l[b]? = some e → okE M e) ∧ Hid (Below wr.heap.size wr wz)) (fun s5 _ _ => X - (intOf s5).toNat)
                    case atStart => exact ⟨0, rfl, by omega, Lib.hid (fun b e hb => absurd hb (by omega)), Lib.hid (Below.refl _ _)⟩
                    case round =>
                      obtain ⟨j, rfl, hj, HZ, HC⟩ := hrel
                      have d0 := (HC.out.cell (p := ⟨w.heap.size, 0, none⟩) (Nat.lt_of_lt_of_le K1.out.lt HB.out.size)).trans ((HB.out.cell (p := ⟨w.heap.size, 0, none⟩) K1.out.lt).trans (K1.out.cell 0))
                      have hrow := (HC.out.cell (p := ⟨b1, o1 + i, none⟩) HB1.out).trans HRC.out
                      by_cases hjn : j < X
                      · have hjn' : (j : Int) < (X : Int) := by omega
                        have hj0 : (0 : Int) ≤ (j : Int) := by omega
                        have HJN := Lib.hid hjn
                        obtain ⟨x, hx⟩ : ∃ x, l[j]? = some x := ⟨_, List.getElem?_eq_getElem (by rw [← HXL.out]; exact hjn)⟩
                        obtain ⟨b3, o3, rfl, hb3, hp⟩ := (HED.out.below HC.out) j x hx
                        have HXM := Lib.hid (List.mem_of_getElem? hx)
                        have HXX := Lib.hid hx
                        have e0 := hp.c0
                        have e1 := hp.c1
                        obtain ⟨x0, x1, x2, x3, hs, e2, e3, e4, e5⟩ := hp.four
                        obtain ⟨xt, xf, xs⟩ := x
                        dsimp only at e0 e1 hs
                        subst hs
                        have HBZ := Lib.hid (grows HBW.out HC.out)
                        have HLM := Lib.hid (List.mem_of_getElem? HL.out)
                        have HBA := Lib.hid (fun o : Obj => grows HBZ.out (below_alloc wr o))
                        have HCA := Lib.hid (fun o : Obj => grows HC.out (below_alloc wr o))
                        clear hx hp hb3 hjn
                        by_cases r1 : xt < 0
                        · have HX : Hid (¬ okA A) := Lib.hid (fun k => by have := (k.e l HLM.out _ HXM.out).1; simp only at this; omega)
                          go_wp2
                          go_ret
                          exact ⟨_, rfl, not_iff_false HX.out, HBA.out _⟩
                        · by_cases r2 : (M : Int) ≤ xt
                          · have HX : Hid (¬ okA A) := Lib.hid (fun k => by have := (k.e l HLM.out _ HXM.out).2.1; simp only at this; have := HKE.out; omega)
                            go_wp2
                            go_ret
                            exact ⟨_, rfl, not_iff_false HX.out, HBA.out _⟩
                          · have r2' : xt < (M : Int) := by omega
                            have HR12 : Hid (0 ≤ xt ∧ xt < (M : Int)) := Lib.hid (by omega)
                            cases xf with
                            | false =>
                              have HNX : Hid (∀ b e, b < j + 1 → l[b]? = some e → okE M e) := Lib.hid (fun b e hb he => by
                                rcases (show b < j ∨ b = j by omega) with h | rfl
                                · exact HZ.out b e h he
                                · rw [HXX.out] at he
                                  obtain rfl := Option.some.inj he
                                  exact ⟨HR12.out.1, HR12.out.2, fun h => by cases h⟩)
                              go_wp2
                              go_roundw
                              case rel => exact ⟨j + 1, by go_num, by have := HJN.out; omega, HNX, Lib.hid (HCA.out _)⟩
                              case measure => have := HJN.out; simp [intOf]; omega
                            | true =>
                              by_cases hz : ([x0, x1, x2, x3] : List Nat) = zero
                              · have heq : ∀ u, (Op.equalIn 10000 64 (.agg #[.int .u64 (x0 : Int), .int .u64 (x1 : Int), .int .u64 (x2 : Int), .int .u64 (x3 : Int)]) (.agg #[.int .u64 0, .int .u64 0, .int .u64 0, .int .u64 0])).run Try.prog u = .ok true u := fun u => by
                                  simp [zero] at hz
                                  obtain ⟨z0, z1, z2, z3⟩ := hz
                                  subst z0; subst z1; subst z2; subst z3
                                  exact eq_same _ _ _ _ u
                                have HZZ := Lib.hid hz
                                have HNX : Hid (∀ b e, b < j + 1 → l[b]? = some e → okE M e) := Lib.hid (fun b e hb he => by
                                  rcases (show b < j ∨ b = j by omega) with h | rfl
                                  · exact HZ.out b e h he
                                  · rw [HXX.out] at he
                                    obtain rfl := Option.some.inj he
                                    exact ⟨HR12.out.1, HR12.out.2, fun _ => HZZ.out⟩)
                                clear hz
                                go_wp2
                                go_roundw
                                case rel => exact ⟨j + 1, by go_num, by have := HJN.out; omega, HNX, Lib.hid (HCA.out _)⟩
                                case measure => have := HJN.out; simp [intOf]; omega
                              · have heq : ∀ u, (Op.equalIn 10000 64 (.agg #[.int .u64 (x0 : Int), .int .u64 (x1 : Int), .int .u64 (x2 : Int), .int .u64 (x3 : Int)]) (.agg #[.int .u64 0, .int .u64 0, .int .u64 0, .int .u64 0])).run Try.prog u = .ok false u := fun u => eq_not (y0 := 0) (y1 := 0) (y2 := 0) (y3 := 0) hz u
                                have HX : Hid (¬ okA A) := Lib.hid (fun k => hz ((k.e l HLM.out _ HXM.out).2.2 rfl))
                                clear hz
                                go_wp2
                                go_ret
                                exact ⟨_, rfl, not_iff_false HX.out, HBA.out _⟩
                      · have hjn' : ¬ (j : Int) < (X : Int) := by omega
                        have HJX : Hid (j = X) := Lib.hid (by omega)
                        have HNX : Hid (∀ a, a < i + 1 → (-1 ≤ at0 A.R a ∧ at0 A.R a ≤ 31) ∧ ∀ l, A.E[a]? = some l → ∀ e ∈ l, okE M e) := Lib.hid (fun a ha => by
                          rcases (show a < i ∨ a = i by omega) with h | rfl
                          · exact HA.out a h
                          · refine ⟨HQ.out, fun l' hl' e he => ?_⟩
                            rw [HL.out] at hl'
                            obtain rfl := Option.some.inj hl'
                            obtain ⟨b, hb⟩ := List.mem_iff_getElem?.1 he
                            exact HZ.out b e (by have := (List.getElem?_eq_some_iff.1 hb).1; have := HXL.out; have := HJX.out; omega) hb)
                        clear hjn hj
                        go_wp2
                        go_roundw
                        case rel => exact ⟨i + 1, by go_num, by have := HIN.out; omega, HNX, Lib.hid (grows HB.out HC.out)⟩
                        case measure => have := HIN.out; simp [intOf]; omega
              · have hiN' : ¬ (i : Int) < (M : Int) := by omega
                have HX : Hid (okA A) := Lib.hid (okA_of (by have := H1.out; have := HKE.out; omega) (by have := H2.out; have := HKE.out; omega) (by rw [← HME.out, ← HKE.out]) (by rw [← HFE.out]; have := H4.out; omega) (by rw [← HFE.out, ← HKE.out]; have := H5.out; omega) (fun a ha => by rw [← HKE.out] at ha ⊢; exact HA.out a (by omega)))
                have HBW := Lib.hid (grows B1.out HB.out)
                clear hiN
                go_wp2
                go_ret
                exact ⟨_, rfl, is_iff_true HX.out, HBW.out⟩
      · have g3 : ((M : Int) == (K : Int)) = false := by rw [beq_eq_false_iff_ne]; omega
        have g3' : ((M : Int) != (K : Int)) = true := by rw [bne_iff_ne]; omega
        have HX : Hid (¬ okA A) := Lib.hid (fun k => by have := k.rl; have := HKE.out; have := HME.out; omega)
        clear h1 h2 h3
        go_enter Try.func13, Try.ntmps13
        go_upto_region 1 with fail
        rw [← hw1]
        clear hw1
        go_wp2
        go_ret
        exact ⟨_, rfl, not_iff_false HX.out, B1.out⟩
end Go.Proofs.Ythjelilmlbbalaa.Ax
namespace Go.Proofs.Ythjelilmlbbalaa.Aw
open Go.RowKit Go.Proofs.Ythjelilmlbbalaa.Bw Go.Proofs.Ythjelilmlbbalaa.Na Go.Proofs.Ythjelilmlbbalaa.Ko Go.Proofs.Ythjelilmlbbalaa.Ra Go.Proofs.Ythjelilmlbbalaa.Rk Go.Proofs.Ythjelilmlbbalaa.An Go.Proofs.Ythjelilmlbbalaa.Ac

theorem below_drews {B : Nat} {a b : World} (h : Below B a b) (n : Nat) : Below B a (b.drewN n) := ⟨h.os, h.tape, h.output, h.size, h.block⟩
set_option maxRecDepth 100000 in
theorem Ints_same {A B : Option Addr} {n capA capB : Nat} {f : Nat → Int} (hn : n ≤ 9223372036854775807) {w : World} (HA : Hid (row w A n f)) (HB : Hid (row w B n f)) :
    Calls Try.prog 15 #[.slice A n capA, .slice B n capB] w fun e w' => e = .returned (.bool true) ∧ Below w.heap.size w w' := by
  go_enter Try.func15, Try.ntmps15
  go_wp2
  go_loopw [5] (fun i wr => ∃ k : Nat, i = .int .i64 k ∧ k ≤ n ∧ Hid (Below w.heap.size w wr)) (fun i _ => n - (intOf i).toNat)
  case atStart => exact ⟨0, rfl, by omega, Lib.hid (Below.refl _ _)⟩
  case round =>
    obtain ⟨k, rfl, hk, HW⟩ := hrel
    by_cases hkn : k < n
    · obtain ⟨b, off, rfl, hbl, hc⟩ := (HA.out.below HW.out) k hkn
      obtain ⟨b', off', rfl, hbl', hc'⟩ := (HB.out.below HW.out) k hkn
      obtain ⟨x, hx⟩ : ∃ x, x = f k := ⟨_, rfl⟩
      rw [← hx] at hc hc'
      clear hx
      go_wp2
      go_quiet (fail)
      go_wp2
      go_roundw
      case rel => exact ⟨k + 1, by go_num, by omega, Lib.hid (below_drews HW.out _)⟩
      case measure => simp [intOf]; omega
    · go_wp2
      go_ret
      exact ⟨rfl, HW.out⟩
theorem cut_low {A : Option Addr} {n cap x : Nat} (hx : x ≤ n) : ∃ A', (∀ u : World, (Instr.slice 26 (.slice A n cap) (some (.int .i64 (x : Int))) none none).run Try.prog u = .ok (.slice A' (n - x) (cap - x)) u) ∧ (∀ g, A = some ⟨g, 0, none⟩ → x < cap → A' = some ⟨g, x, none⟩) := by
  have h1 : (0 : Int) ≤ (x : Int) := by omega
  have h2 : (x : Int) ≤ (n : Int) := by omega
  refine ⟨if cap = x then A else A.map (·.add (x * 1)), fun u => ?_, fun g hA hc => ?_⟩
  · go_simp
  · rw [if_neg (by omega), hA]
    by_cases h0 : x = 0
    · subst h0; rfl
    · simp [Addr.add, h0]
theorem putQ_here : ∀ {L : List Int} {n : Int} {i : Nat}, (∀ j, j < i → at' L j < n) → i ≤ L.length → (i < L.length → n < at' L i) → putQ L n = L.take i ++ n :: L.drop i
  | [], n, i, _, hi, _ => by
    obtain rfl : i = 0 := by simpa using hi
    rfl
  | x :: L, n, 0, _, _, h => by
    have h1 := h (by simp)
    have hx : at' (x :: L) 0 = x := rfl
    rw [hx] at h1
    unfold putQ
    rw [if_neg (by omega), if_neg (by omega)]
    rfl
  | x :: L, n, i + 1, hlt, hi, h => by
    have h0 := hlt 0 (by omega)
    have hx : at' (x :: L) 0 = x := rfl
    rw [hx] at h0
    unfold putQ
    rw [if_pos h0, putQ_here (i := i) (fun j hj => by have := hlt (j + 1) (by omega); exact this) (by simpa using hi) (fun hh => by have := h (by simpa using hh); exact this)]
    rfl
/-- The rest of a row. -/
theorem row_rest {w : World} {A A' : Option Addr} {L : List Int} {cap i : Nat} {v : Value} {base : Nat} {e : TypeId} (h : ints w base e v L) (hv : v = .slice A L.length cap) (hc : L.length ≤ cap) (hi : i ≤ L.length) (hA : ∀ g, A = some ⟨g, 0, none⟩ → i < cap → A' = some ⟨g, i, none⟩) : row w A' (L.length - i) (fun k => at' L (i + k)) := fun k hk => by
  subst hv
  obtain ⟨b, off, e1, hb, hcell⟩ := ints.row h (i + k) (by omega)
  have hoff : ∃ g, A = some ⟨g, 0, none⟩ := by
    rcases h.2 with ⟨e0, h0⟩ | ⟨g, c, _, e2, _⟩
    · have h0' : L.length = 0 := by simpa using h0
      omega
    · injection e2 with e2 _ _
      exact ⟨g, e2⟩
  obtain ⟨g, hg⟩ := hoff
  rw [hg] at e1
  injection e1 with e1
  injection e1 with e1 e2 _
  subst e1; subst e2
  refine ⟨g, i, hA g hg (by omega), hb, ?_⟩
  rw [Nat.zero_add] at hcell
  exact hcell
theorem upto_drop (L : List Int) (i : Nat) : upto (L.length - i) (fun k => at' L (i + k)) = L.drop i := by
  refine List.ext_getElem? (fun k => ?_)
  rw [List.getElem?_drop]
  by_cases h : k < L.length - i
  · rw [upto_get _ h, at_get (by omega)]
  · rw [List.getElem?_eq_none (by rw [upto_length]; omega), List.getElem?_eq_none (by omega)]
theorem ints_mono {w : World} {B B' : Nat} {e : TypeId} {v : Value} {l : List Int} (hB : B ≤ B') (h : ints w B' e v l) : ints w B e v l := by
  unfold ints at h ⊢
  refine ⟨h.1, ?_⟩
  rcases h.2 with h0 | ⟨g, cap, cur, h1, h2, h3⟩
  · exact .inl h0
  · exact .inr ⟨g, cap, cur, h1, Nat.le_trans hB h2, h3⟩
theorem below_grown {w a b : World} {r : Option Nat} (h : Below w.heap.size w a) (k : a.grownBy b r) (hr : ∀ i, r = some i → w.heap.size ≤ i ∧ i < a.heap.size) : Below w.heap.size w b :=
  h.grown k h.size (fun i hi => (hr i hi).1)
set_option maxHeartbeats 2000000 in
set_option maxRecDepth 100000 in
theorem put_any {L : List Int} {v : Value} {B : Nat} {n : Int} (hL : L.length ≤ 100000) (ha : asc L) {w : World} (hB : B ≤ w.heap.size) (HI : Hid (ints w B 3 v L)) :
    Calls Try.prog 40 #[v, .int .i64 n] w fun e w' => ∃ v', e = .returned v' ∧ ints w' B 3 v' (putQ L n) ∧ Below w.heap.size w w' := by
  obtain ⟨A, cap, hv, hcap⟩ := HI.out.le
  have HV := Lib.hid hv
  subst hv
  obtain ⟨i0, hii, hz0, hz1, hz2⟩ := info_parts infoI
  have HBB := Lib.hid hB
  have HAS := Lib.hid ha
  have HCAP := Lib.hid hcap
  obtain ⟨N, hN⟩ : ∃ N, N = L.length := ⟨_, rfl⟩
  have HN := Lib.hid hN
  rw [← hN] at hL ⊢
  obtain ⟨R, hR⟩ : ∃ R, R = putQ L n := ⟨_, rfl⟩
  have HRR := Lib.hid hR
  rw [← hR]
  clear hR
  have HR : Hid (row w A N (at' L)) := Lib.hid (by rw [hN]; exact HI.out.row)
  clear hN hB ha hcap
  go_enter Try.func40, Try.ntmps40
  go_wp2
  go_loopw [5, 6] (fun s5 s6 wr => ∃ (i : Nat) (v5 : Value), s5 = v5 ∧ s6 = .int .i64 (i : Int) ∧ i ≤ N ∧ Hid (∀ j, j < i → at' L j < n) ∧ Hid (ints wr w.heap.size 3 v5 (L.take i)) ∧ Hid (Below w.heap.size w wr)) (fun _ s6 _ => N - (intOf s6).toNat)
  case atStart => exact ⟨0, _, rfl, rfl, by omega, Lib.hid (fun j hj => absurd hj (by omega)), Lib.hid (ints_nil _ _ _), Lib.hid (Below.refl _ _)⟩
  case round =>
    obtain ⟨i, v5, rfl, rfl, hi, HLT, HX, HB⟩ := hrel
    obtain ⟨P, hP⟩ : ∃ P, P = L.take i := ⟨_, rfl⟩
    rw [← hP] at HX
    have HP := Lib.hid hP
    have HTL : Hid (P.length = i) := Lib.hid (by rw [hP, List.length_take, ← HN.out]; omega)
    clear hP
    obtain ⟨A5, c5, hv5⟩ := HX.out.form
    rw [HTL.out] at hv5
    subst hv5
    have HS := Lib.hid HB.out.size
    have hi0 : (0 : Int) ≤ (i : Int) := by omega
    by_cases hgo : i < N ∧ at' L i < n
    · obtain ⟨hiN, hlt⟩ := hgo
      have hiN' : (i : Int) < (N : Int) := by omega
      obtain ⟨b, off, rfl, hb, hc0⟩ := (HR.out.below HB.out) i hiN
      obtain ⟨x, hx⟩ : ∃ x, x = at' L i := ⟨_, rfl⟩
      rw [← hx] at hc0 hlt
      have HNX : Hid (L.take (i + 1) = P ++ [x]) := Lib.hid (by rw [HP.out, List.take_add_one, at_get (by rw [← HN.out]; exact hiN), hx]; rfl)
      have HLT' : Hid (∀ j, j < i + 1 → at' L j < n) := Lib.hid (fun j hj => by
        rcases (show j < i ∨ j = i by omega) with h | rfl
        · exact HLT.out j h
        · rw [← hx]; exact hlt)
      have HOn : Hid (wr.ownsRow w.heap.size 3 1 (.slice A5 i c5) i (Is P)) := Lib.hid (by have h := HX.out; unfold ints at h; rw [HTL.out] at h; exact h)
      have HIN := Lib.hid hiN
      clear hx hiN
      go_wp2_with (at_builtin; refine wpList_append_own_at _ rfl _ _ 26 rfl w.heap.size 3 i0 (.int .i64 0) 1 8 Try.underlying26 hii hz0 hz1 hz2 rfl (by decide) _ i (Is P) rfl (HOn.out.alloc _) ⟨wr.heap.size, 0, none⟩ 1 1 [.int .i64 x] rfl rfl (cell_one_new _ _ _) ?a2 ?a3 ?a4 ?a5 ?_)
      case a2 => intro q hq; simp at hq; subst hq; rfl
      case a3 => unfold maxLen; omega
      case a4 => omega
      case a5 => have := HS.out; rw [size_alloc]; omega
      intro v3 w3 h3 g3 _ _
      rw [← HTL.out] at h3
      obtain ⟨k1, k2⟩ := ints_snoc (w := w) (Nat.le_refl _) HB.out HX.out h3 g3
      have K1 := Lib.hid k1
      have K2 := Lib.hid k2
      obtain ⟨A6, c6, hv6⟩ := K1.out.form
      subst hv6
      clear h3 g3 k1 k2 hc0
      go_wp2
      go_roundw
      case rel => exact ⟨i + 1, _, rfl, by go_num, by have := HIN.out; omega, HLT', Lib.hid (by rw [HNX.out]; exact K1.out), K2⟩
      case measure => have := HIN.out; simp [intOf]; omega
    · by_cases heq : i < N ∧ at' L i = n
      · obtain ⟨hiN, he⟩ := heq
        have hiN' : (i : Int) < (N : Int) := by omega
        obtain ⟨b, off, rfl, hb, hc0⟩ := (HR.out.below HB.out) i hiN
        rw [he] at hc0
        have hnn : ¬ n < n := by omega
        have HQ : Hid (R = L) := Lib.hid (by rw [HRR.out]; exact putQ_old HAS.out (by rw [← he]; exact List.mem_of_getElem? (at_get (by rw [← HN.out]; exact hiN))))
        clear hgo he hiN
        go_wp2
        go_ret
        exact ⟨_, rfl, by rw [HQ.out]; rw [← HN.out] at HI; exact HI.out.below HB.out, HB.out⟩
      · have HQ : Hid (R = P ++ n :: L.drop i) := Lib.hid (by rw [HRR.out, HP.out]; exact putQ_here HLT.out (by rw [← HN.out]; exact hi) (fun hh => by
          have h1 : i < N := by rw [HN.out]; exact hh
          rcases Int.lt_trichotomy (at' L i) n with h | h | h
          · exact absurd ⟨h1, h⟩ hgo
          · exact absurd ⟨h1, h⟩ heq
          · exact h))
        obtain ⟨A', hcut, hA'⟩ := cut_low (A := A) (n := N) (cap := cap) (x := i) hi
        have HRS : Hid (∀ u, Below w.heap.size w u → row u A' (N - i) (fun k => at' L (i + k))) := Lib.hid (fun u k => by
          have h := row_rest (i := i) (A' := A') (HI.out.below k) rfl HCAP.out (by rw [← HN.out]; exact hi) hA'
          rw [← HN.out] at h
          exact h)
        have HUD : Hid (upto (N - i) (fun k => at' L (i + k)) = L.drop i) := Lib.hid (by rw [HN.out]; exact upto_drop L i)
        have HOn : Hid (wr.ownsRow w.heap.size 3 1 (.slice A5 i c5) i (Is P)) := Lib.hid (by have h := HX.out; unfold ints at h; rw [HTL.out] at h; exact h)
        have HNI : Hid (N - i ≤ 100000 ∧ i ≤ 100000) := Lib.hid (by omega)
        by_cases hiN : i < N
        · have hiN' : (i : Int) < (N : Int) := by omega
          obtain ⟨b, off, hAb, hb, hc0⟩ := (HR.out.below HB.out) i hiN
          have hx1 : ¬ at' L i < n := fun h => hgo ⟨hiN, h⟩
          have hx2 : (at' L i == n) = false := by
            rw [beq_eq_false_iff_ne]
            exact fun h => heq ⟨hiN, h⟩
          obtain ⟨x, hx⟩ : ∃ x, x = at' L i := ⟨_, rfl⟩
          rw [← hx] at hc0 hx1 hx2
          subst hAb
          clear hgo heq hx hiN
          go_wp2_with (at_builtin; refine wpList_append_own_at _ rfl _ _ 26 rfl w.heap.size 3 i0 (.int .i64 0) 1 8 Try.underlying26 hii hz0 hz1 hz2 rfl (by decide) _ i (Is P) rfl (HOn.out.alloc _) ⟨wr.heap.size, 0, none⟩ 1 1 [.int .i64 n] rfl rfl (cell_one_new _ _ _) ?a2 ?a3 ?a4 ?a5 ?_)
          case a2 => first | rfl | (intro q hq; simp at hq; subst hq; rfl)
          case a3 => have := HNI.out; unfold maxLen; omega
          case a4 => have := HNI.out; omega
          case a5 => have := HS.out; first | omega | (rw [size_alloc]; omega)
          intro v3 w3 h3 g3 _ _
          rw [← HTL.out] at h3
          obtain ⟨k1, k2⟩ := ints_snoc (w := w) (Nat.le_refl _) HB.out HX.out h3 g3
          have K1 := Lib.hid k1
          have K2 := Lib.hid k2
          obtain ⟨A6, c6, hv6⟩ := K1.out.form
          subst hv6
          clear h3 g3 k1 k2
          go_wp2_with (at_builtin; refine wpList_append_row _ rfl _ _ 26 rfl w.heap.size 3 i0 Try.underlying26 hii hz0 hz1 hz2 _ (P ++ [n]) rfl K1.out A' (N - i) _ _ rfl (HRS.out _ K2.out) ?b1 K2.out.size ?_)
          case b1 => have := HNI.out; rw [List.length_append, HTL.out]; simp; omega
          intro v7 w7 h7 g7 _
          have K7 : Hid (ints w7 w.heap.size 3 v7 R) := Lib.hid (by rw [HQ.out, ← HUD.out]; exact h7)
          have K8 : Hid (Below w.heap.size w w7) := Lib.hid (below_grown K2.out g7 (fun i hi => K1.out.lo i (by simpa [Value.ownBlock] using hi)))
          obtain ⟨A8, c8, hv8⟩ := K7.out.form
          subst hv8
          clear h7 g7
          go_wp2
          go_ret
          exact ⟨_, rfl, ints_mono HBB.out K7.out, K8.out⟩
        · have hiN' : ¬ (i : Int) < (N : Int) := by omega
          clear hgo heq hiN
          go_wp2_with (at_builtin; refine wpList_append_own_at _ rfl _ _ 26 rfl w.heap.size 3 i0 (.int .i64 0) 1 8 Try.underlying26 hii hz0 hz1 hz2 rfl (by decide) _ i (Is P) rfl (HOn.out.alloc _) ⟨wr.heap.size, 0, none⟩ 1 1 [.int .i64 n] rfl rfl (cell_one_new _ _ _) ?a2 ?a3 ?a4 ?a5 ?_)
          case a2 => first | rfl | (intro q hq; simp at hq; subst hq; rfl)
          case a3 => have := HNI.out; unfold maxLen; omega
          case a4 => have := HNI.out; omega
          case a5 => have := HS.out; first | omega | (rw [size_alloc]; omega)
          intro v3 w3 h3 g3 _ _
          rw [← HTL.out] at h3
          obtain ⟨k1, k2⟩ := ints_snoc (w := w) (Nat.le_refl _) HB.out HX.out h3 g3
          have K1 := Lib.hid k1
          have K2 := Lib.hid k2
          obtain ⟨A6, c6, hv6⟩ := K1.out.form
          subst hv6
          clear h3 g3 k1 k2
          go_wp2_with (at_builtin; refine wpList_append_row _ rfl _ _ 26 rfl w.heap.size 3 i0 Try.underlying26 hii hz0 hz1 hz2 _ (P ++ [n]) rfl K1.out A' (N - i) _ _ rfl (HRS.out _ K2.out) ?b1 K2.out.size ?_)
          case b1 => have := HNI.out; rw [List.length_append, HTL.out]; simp; omega
          intro v7 w7 h7 g7 _
          have K7 : Hid (ints w7 w.heap.size 3 v7 R) := Lib.hid (by rw [HQ.out, ← HUD.out]; exact h7)
          have K8 : Hid (Below w.heap.size w w7) := Lib.hid (below_grown K2.out g7 (fun i hi => K1.out.lo i (by simpa [Value.ownBlock] using hi)))
          obtain ⟨A8, c8, hv8⟩ := K7.out.form
          subst hv8
          clear h7 g7
          go_wp2
          go_ret
          exact ⟨_, rfl, ints_mono HBB.out K7.out, K8.out⟩
end Go.Proofs.Ythjelilmlbbalaa.Aw
namespace Go.Proofs.Ythjelilmlbbalaa.Ab
open Go.RowKit Go.Proofs.Ythjelilmlbbalaa.Bw Go.Proofs.Ythjelilmlbbalaa.Na Go.Proofs.Ythjelilmlbbalaa.Ko Go.Proofs.Ythjelilmlbbalaa.Tm Go.Proofs.Ythjelilmlbbalaa.Tf Go.Proofs.Ythjelilmlbbalaa.Tj Go.Proofs.Ythjelilmlbbalaa.Rm Go.Proofs.Ythjelilmlbbalaa.Ra Go.Proofs.Ythjelilmlbbalaa.Am Go.Proofs.Ythjelilmlbbalaa.An Go.Proofs.Ythjelilmlbbalaa.Ac Go.Proofs.Ythjelilmlbbalaa.Aa Go.Proofs.Ythjelilmlbbalaa.Aw Go.Proofs.Ythjelilmlbbalaa.Ax

/-- An automaton as a value. -/
def nv (A1 A2 : Option Addr) (c1 c2 : Nat) (A : Au) : Value := .agg #[.slice A1 A.E.length c1, .int .i64 A.first, .slice A2 A.R.length c2]
/-- What Closure answers. -/
def ansC (A : Au) (S : Nat → Prop) (w : World) (e : Ending) (w' : World) : Prop := ∃ v C, e = .returned v ∧ ints w' w.heap.size 3 v C ∧ (okA A → isL C (clo A.E S)) ∧ (¬ okA A → C = []) ∧ Below w.heap.size w w'
/-- The first so many of some numbers. -/
def fst' (S : List Int) (K i : Nat) (q : Nat) : Prop := q < K ∧ ∃ a, a < i ∧ S[a]? = some (q : Int)
theorem fst_no {S : List Int} {K i : Nat} {z : Int} (h : S[i]? = some z) (hz : z < 0 ∨ (K : Int) ≤ z) (q : Nat) : fst' S K (i + 1) q ↔ fst' S K i q := by
  unfold fst'
  constructor
  · rintro ⟨h1, a, ha, hs⟩
    refine ⟨h1, a, ?_, hs⟩
    rcases (show a < i ∨ a = i by omega) with k | rfl
    · exact k
    · rw [h] at hs
      have := Option.some.inj hs
      omega
  · rintro ⟨h1, a, ha, hs⟩
    exact ⟨h1, a, by omega, hs⟩
theorem fst_yes {S : List Int} {K i z : Nat} (h : S[i]? = some (z : Int)) (hz : z < K) (q : Nat) : q = z ∨ fst' S K i q ↔ fst' S K (i + 1) q := by
  unfold fst'
  constructor
  · rintro (rfl | ⟨h1, a, ha, hs⟩)
    · exact ⟨hz, i, by omega, h⟩
    · exact ⟨h1, a, by omega, hs⟩
  · rintro ⟨h1, a, ha, hs⟩
    rcases (show a < i ∨ a = i by omega) with k | rfl
    · exact .inr ⟨h1, a, k, hs⟩
    · rw [h] at hs
      exact .inl (by have := Option.some.inj hs; omega)
def lenV : Value → Nat
  | .slice _ n _ => n
  | _ => 0
set_option maxHeartbeats 4000000 in
set_option maxRecDepth 100000 in
theorem rClosure_any {A : Au} (hE : A.E.length ≤ 1000000) (hM : A.R.length ≤ 1000000) (hrow : ∀ l ∈ A.E, l.length ≤ 1000000) {A1 A2 As : Option Addr} {c1 c2 cs : Nat} {S : List Int} (hS : S.length ≤ 1000000) {w : World} (H : Hid (nfa w A1 A2 A)) (HSR : Hid (row w As S.length (at0 S))) :
    Calls Try.prog 21 #[nv A1 A2 c1 c2 A, .slice As S.length cs] w fun e w' => ansC A (fun q => (q : Int) ∈ S) w e w' := by
  have HRI : Hid (∀ u, nfa u A1 A2 A → Calls Try.prog 13 #[nv A1 A2 c1 c2 A] u fun e w' => ansB (okA A) u e w') := Lib.hid (fun u h => rRight_any hE hM hrow (Lib.hid h))
  have HPU : Hid (∀ (u : World) (B : Nat) (v : Value) (L : List Int) (n : Int), L.length ≤ 100000 → asc L → B ≤ u.heap.size → ints u B 3 v L → Calls Try.prog 40 #[v, .int .i64 n] u fun e w' => ∃ v', e = .returned v' ∧ ints w' B 3 v' (putQ L n) ∧ Below u.heap.size u w') := Lib.hid (fun u B v L n h1 h2 h3 h4 => put_any h1 h2 h3 (Lib.hid h4))
  unfold nv at HRI ⊢
  have HROW := Lib.hid hrow
  obtain ⟨K, hK⟩ : ∃ K, K = A.E.length := ⟨_, rfl⟩
  obtain ⟨M, hMM⟩ : ∃ M, M = A.R.length := ⟨_, rfl⟩
  obtain ⟨F, hF⟩ : ∃ F, F = A.first := ⟨_, rfl⟩
  obtain ⟨m, hm⟩ : ∃ m, m = S.length := ⟨_, rfl⟩
  have HKE := Lib.hid hK
  have HSM := Lib.hid hm
  rw [← hK] at hE
  rw [← hMM] at hM
  rw [← hm] at hS HSR ⊢
  rw [← hK, ← hMM, ← hF] at HRI ⊢
  obtain ⟨w1, hw1⟩ : ∃ w1, w1 = w.alloc (.cells #[.slice A1 K c1, .int .i64 F, .slice A2 M c2] 28) := ⟨_, rfl⟩
  have B1 : Hid (Below w.heap.size w w1) := Lib.hid (by rw [hw1]; exact below_alloc _ _)
  have K1 : Hid (Blk w1 w.heap.size 28 #[.slice A1 K c1, .int .i64 F, .slice A2 M c2]) := Lib.hid (by rw [hw1]; exact Blk.fresh _ _ _)
  have d0 : w1.cell? ⟨w.heap.size, 0, none⟩ = some (.slice A1 K c1) := K1.out.cell 0
  have d1 : w1.cell? ⟨w.heap.size, 1, none⟩ = some (.int .i64 F) := K1.out.cell 1
  have d2 : w1.cell? ⟨w.heap.size, 2, none⟩ = some (.slice A2 M c2) := K1.out.cell 2
  clear hK hMM hF hrow hm
  go_enter Try.func21, Try.ntmps21
  go_upto_region 1 with fail
  rw [← hw1]
  clear hw1
  go_wp2_with (go_at_call 13; refine (HRI.out _ (H.out.below B1.out)).mono ?_; rintro e w2 ⟨rb, rfl, hrb, k2⟩; have HRB := Lib.hid hrb; have B2 := Lib.hid (grows B1.out k2); have K2 := Lib.hid (K1.out.below k2); clear hrb k2 d0 d1 d2; cases rb)
  · have HX : Hid (¬ okA A) := Lib.hid (fun k => by have := HRB.out.2 k; cases this)
    go_wp2
    go_ret
    exact ⟨_, [], rfl, ints_nil _ _ _, fun k => absurd k HX.out, fun _ => rfl, B2.out⟩
  · have HOK : Hid (okA A) := Lib.hid (HRB.out.1 (by simp))
    have hK3 : K ≤ 3000 := by rw [HKE.out]; exact HOK.out.hi
    go_wp2
    go_loopw [5, 6] (fun s5 s6 wr => ∃ (i : Nat) (v : Value) (C : List Int), s5 = v ∧ s6 = .int .i64 (i : Int) ∧ i ≤ m ∧ Hid (ints wr w.heap.size 3 v C) ∧ Hid (isL C (fst' S K i)) ∧ Hid (Below w2.heap.size w2 wr)) (fun _ s6 _ => m - (intOf s6).toNat)
    case atStart => exact ⟨0, _, [], rfl, rfl, by omega, Lib.hid (ints_nil _ _ _), Lib.hid (isL_nil.congr (fun q => ⟨False.elim, fun h => by obtain ⟨_, a, ha, _⟩ := h; omega⟩)), Lib.hid (Below.refl _ _)⟩
    case round =>
      obtain ⟨i, v, C, rfl, rfl, hi, HI, HC, HB⟩ := hrel
      obtain ⟨A5, c5, hv⟩ := HI.out.form
      subst hv
      have HW := Lib.hid (grows B2.out HB.out)
      have d0 := ((K2.out.below HB.out).cell 0)
      have hKC : C.length ≤ K := HC.out.len (fun q h => h.1)
      by_cases him : i < m
      · have him' : (i : Int) < (m : Int) := by omega
        have hi0 : (0 : Int) ≤ (i : Int) := by omega
        have HIM := Lib.hid him
        obtain ⟨bs, os, rfl, hbs, hcs⟩ := (HSR.out.below HW.out) i him
        obtain ⟨z, hz⟩ : ∃ z, z = at0 S i := ⟨_, rfl⟩
        rw [← hz] at hcs
        have HSZ : Hid (S[i]? = some z) := Lib.hid (by rw [hz]; exact at0_get (by rw [← HSM.out]; exact him))
        have HCB := Lib.hid (HSR.out.below HW.out)
        clear hz him hbs
        by_cases hz : 0 ≤ z ∧ z < (K : Int)
        · obtain ⟨hz0, hzK⟩ := hz
          obtain ⟨y, rfl⟩ := Int.eq_ofNat_of_zero_le hz0
          have HNX : Hid (isL (putQ C (y : Int)) (fst' S K (i + 1))) := Lib.hid ((HC.out.put y).congr (fst_yes HSZ.out (by omega)))
          have HPP := Lib.hid (fun (u : World) (h1 : w.heap.size ≤ u.heap.size) (h2 : ints u w.heap.size 3 (.slice A5 C.length c5) C) => HPU.out u w.heap.size _ C (y : Int) (by omega) HC.out.a h1 h2)
          go_wp2
          go_quiet (fail)
          obtain ⟨w5, hw5⟩ : ∃ w5, w5 = wr.drewN nq := ⟨_, rfl⟩
          have HB5 : Hid (Below w2.heap.size w2 w5) := Lib.hid (by rw [hw5]; exact below_drews HB.out _)
          have HI5 : Hid (ints w5 w.heap.size 3 (.slice A5 C.length c5) C) := Lib.hid (by rw [hw5]; exact HI.out.draws _)
          have HS5 : Hid (w.heap.size ≤ w5.heap.size) := Lib.hid (by rw [hw5]; exact HW.out.size)
          have hcs5 : w5.cell? ⟨bs, os + i, none⟩ = some (.int .i64 (y : Int)) := by rw [hw5]; exact hcs
          rw [← hw5]
          clear hw5 hcs d0 hz0 hzK
          go_wp2_with (go_at_call 40; refine (HPP.out _ HS5.out HI5.out).mono ?_; rintro e w6 ⟨v6, rfl, i6, k6⟩; have I6 := Lib.hid i6; have K6 := Lib.hid (grows HB5.out k6); obtain ⟨A6, c6, hv6⟩ := i6.form; subst hv6; clear i6 k6)
          go_roundw
          case rel => exact ⟨i + 1, _, _, rfl, by go_num, by have := HIM.out; omega, I6, HNX, K6⟩
          case measure => have := HIM.out; simp [intOf]; omega
        · have HNX : Hid (isL C (fst' S K (i + 1))) := Lib.hid (HC.out.congr (fun q => (fst_no HSZ.out (by omega) q).symm))
          by_cases hz0 : 0 ≤ z
          · have hzK : ¬ z < (K : Int) := by omega
            clear hz
            go_wp2
            go_quiet (fail)
            go_wp2
            go_roundw
            case rel => exact ⟨i + 1, _, _, rfl, by go_num, by have := HIM.out; omega, Lib.hid (HI.out.draws _), HNX, Lib.hid (below_drews HB.out _)⟩
            case measure => have := HIM.out; simp [intOf]; omega
          · have hz0' : decide (0 ≤ z) = false := by simp; omega
            clear hz
            go_wp2
            go_quiet (fail)
            go_wp2
            go_roundw
            case rel => exact ⟨i + 1, _, _, rfl, by go_num, by have := HIM.out; omega, Lib.hid (HI.out.draws _), HNX, Lib.hid (below_drews HB.out _)⟩
            case measure => have := HIM.out; simp [intOf]; omega
      · have him' : ¬ (i : Int) < (m : Int) := by omega
        have HS0 : Hid (isL C (fun q => q < K ∧ (q : Int) ∈ S)) := Lib.hid (HC.out.congr (fun q => ⟨fun ⟨h1, a, _, h2⟩ => ⟨h1, List.mem_of_getElem? h2⟩, fun ⟨h1, h2⟩ => by
          obtain ⟨a, ha⟩ := List.mem_iff_getElem?.1 h2
          exact ⟨h1, a, by have := (List.getElem?_eq_some_iff.1 ha).1; have := HSM.out; omega, ha⟩⟩))
        clear him d0
        go_wp2
        clear him'
        go_loopw [5, 7, 8, 9, 10, 11] (fun s5 _ _ _ _ _ wr => ∃ (v : Value) (C : List Int) (P : Nat → Prop), s5 = v ∧ Hid (ints wr w.heap.size 3 v C) ∧ Hid (isL C P) ∧ Hid (∀ q : Nat, (q : Int) ∈ S → q < K → P q) ∧ Hid (∀ q : Nat, P q → clo A.E (fun q => (q : Int) ∈ S) q) ∧ Hid (Below w2.heap.size w2 wr)) (fun s5 _ _ _ _ _ _ => K + 1 - lenV s5)
        case atStart => exact ⟨_, C, _, rfl, HI, HS0, Lib.hid (fun q h1 h2 => ⟨h2, h1⟩), Lib.hid (fun q h => clo_of h.2 (by rw [← HKE.out]; exact h.1)), HB⟩
        case round =>
          clear HI HC HB HW hKC HS0 hi
          obtain ⟨v, C, P, rfl, HI, HC, HP1, HP2, HB⟩ := hrel
          obtain ⟨A5, c5, hv⟩ := HI.out.form
          subst hv
          have hlt : ∀ q, P q → q < K := fun q h => by rw [HKE.out]; exact clo_lt (okA.free HOK.out) (HP2.out q h)
          have HLT := Lib.hid hlt
          have hKC : C.length ≤ K := HC.out.len hlt
          have HKC := Lib.hid hKC
          have HRW := Lib.hid HI.out.row
          clear hlt
          obtain ⟨N, hN⟩ : ∃ N, N = C.length := ⟨_, rfl⟩
          have HN := Lib.hid hN
          rw [← hN] at hKC ⊢
          go_wp2
          go_loopw [5, 9, 10, 11] (fun s5 s9 _ _ wq => ∃ (i : Nat) (v : Value) (D : List Int), s5 = v ∧ s9 = .int .i64 (i : Int) ∧ i ≤ N ∧ Hid (ints wq w.heap.size 3 v D) ∧ Hid (isL D (fun q => P q ∨ pas A.E C i 0 q)) ∧ Hid (Below wr.heap.size wr wq)) (fun _ s9 _ _ _ => N - (intOf s9).toNat)
          case atStart => exact ⟨0, .slice A5 N c5, C, rfl, rfl, by omega, Lib.hid (by rw [HN.out]; exact HI.out), Lib.hid (HC.out.congr (fun q => ⟨.inl, fun h => h.elim id (fun h => absurd h pas_zero)⟩)), Lib.hid (Below.refl _ _)⟩
          case round =>
            clear hN
            obtain ⟨i, v, D, rfl, rfl, hi, HJ, HD, HE⟩ := hrel
            obtain ⟨A6, c6, hv⟩ := HJ.out.form
            subst hv
            by_cases hin : i < N
            · have hin' : (i : Int) < (N : Int) := by omega
              have hi0 : (0 : Int) ≤ (i : Int) := by omega
              have HIN := Lib.hid hin
              obtain ⟨p, hp⟩ : ∃ p : Nat, C[i]? = some (p : Int) := by
                have h1 := at_get (l := C) (i := i) (by rw [← HN.out]; exact hin)
                obtain ⟨q, hq, _⟩ := (HC.out.m _).1 (List.mem_of_getElem? h1)
                exact ⟨q, by rw [h1, hq]⟩
              have HPI := Lib.hid hp
              have hpK : p < K := HLT.out p ((HC.out.mem p).1 (List.mem_of_getElem? hp))
              have hpK' : (p : Int) < (K : Int) := by omega
              have hp0 : (0 : Int) ≤ (p : Int) := by omega
              obtain ⟨l, hl⟩ : ∃ l, A.E[p]? = some l := ⟨_, List.getElem?_eq_getElem (by rw [← HKE.out]; exact hpK)⟩
              have HL := Lib.hid hl
              have hll : l.length ≤ 1000000 := HROW.out l (List.mem_of_getElem? hl)
              have HBI := Lib.hid (grows (grows B2.out HB.out) HE.out)
              have HKB := Lib.hid (K2.out.below (grows HB.out HE.out))
              obtain ⟨b1, o1, rfl, hb1, A', c', hrw, _, hed⟩ := (H.out.e.below HBI.out) p l hl
              obtain ⟨b2, o2, rfl, hb2, hnw⟩ := (HRW.out.below HE.out) i (by rw [← HN.out]; exact hin)
              have hat : at' C i = (p : Int) := by
                have h1 := at_get (l := C) (i := i) (by rw [← HN.out]; exact hin)
                rw [hp] at h1
                exact (Option.some.inj h1).symm
              rw [hat] at hnw
              obtain ⟨X, hX⟩ : ∃ X, X = l.length := ⟨_, rfl⟩
              have HXL := Lib.hid hX
              rw [← hX] at hrw hll
              have HC1 : Hid (∀ u, Below wr.heap.size wr u → u.cell? ⟨w.heap.size, 0, none⟩ = some (.slice (some ⟨b1, o1, none⟩) K c1) ∧ u.cell? ⟨b1, o1 + p, none⟩ = some (.slice A' X c') ∧ u.cell? ⟨b2, o2 + i, none⟩ = some (.int .i64 (p : Int)) ∧ eds u A' l) := Lib.hid (fun u k => ⟨(HKB.out.below k).cell 0, (k.cell (p := ⟨b1, o1 + p, none⟩) hb1).trans hrw, (k.cell (p := ⟨b2, o2 + i, none⟩) hb2).trans hnw, hed.below k⟩)
              clear hp hpK hl hb1 hrw hed hb2 hnw hat hX hin
              go_wp2
              go_loopw [5, 10, 11] (fun s5 s10 _ wz => ∃ (j : Nat) (v : Value) (D : List Int), s5 = v ∧ s10 = .int .i64 (j : Int) ∧ j ≤ X ∧ Hid (ints wz w.heap.size 3 v D) ∧ Hid (isL D (fun q => P q ∨ pas A.E C i j q)) ∧ Hid (Below wr.heap.size wr wz)) (fun _ s10 _ _ => X - (intOf s10).toNat)
              case atStart => exact ⟨0, _, D, rfl, rfl, by omega, HJ, HD, Lib.hid (Below.refl _ _)⟩
              case round =>
                clear HJ HD
                obtain ⟨j, v, D, rfl, rfl, hj, HJ, HD, HG⟩ := hrel
                obtain ⟨A7, c7, hv⟩ := HJ.out.form
                subst hv
                have hDK : D.length ≤ K := HD.out.len (fun q h => by
                  rcases h with h | h
                  · exact HLT.out q h
                  · rw [HKE.out]
                    rcases h with ⟨_, _, _, _, hf⟩ | ⟨_, _, _, e, hl', _, _, he, hf, ht⟩
                    · exact okA.free HOK.out _ _ hf
                    · exact okA.free HOK.out _ _ ⟨_, e, hl', List.mem_of_getElem? he, hf, ht⟩)
                obtain ⟨d0, d1, d2, _⟩ := HC1.out wr HG.out
                have hD9 : D.length ≤ 100000 := by omega
                have HD9 := Lib.hid hD9
                clear hDK hD9
                by_cases hjn : j < X
                · have hjn' : (j : Int) < (X : Int) := by omega
                  have hj0 : (0 : Int) ≤ (j : Int) := by omega
                  have HJN := Lib.hid hjn
                  obtain ⟨x, hx⟩ : ∃ x, l[j]? = some x := ⟨_, List.getElem?_eq_getElem (by rw [← HXL.out]; exact hjn)⟩
                  have HXX := Lib.hid hx
                  go_wp2
                  go_quiet (fail)
                  obtain ⟨w5, hw5⟩ : ∃ w5, w5 = wr.drewN nq := ⟨_, rfl⟩
                  have HG5 := Lib.hid (show Below _ _ w5 from by rw [hw5]; exact below_drews HG.out nq)
                  have HJ5 : Hid (ints w5 w.heap.size 3 (.slice A7 D.length c7) D) := Lib.hid (by rw [hw5]; exact HJ.out.draws _)
                  rw [← hw5]
                  clear hw5 d0 d1 d2
                  obtain ⟨d0, d1, d2, hed⟩ := HC1.out w5 HG5.out
                  obtain ⟨b3, o3, rfl, hb3, hp⟩ := hed j x hx
                  have e0 := hp.c0
                  have e1 := hp.c1
                  obtain ⟨x0, x1, x2, x3, hs, e2, e3, e4, e5⟩ := hp.four
                  obtain ⟨xt, xf, xs⟩ := x
                  dsimp only at e0 e1 hs
                  subst hs
                  clear hx hp hed hb3 hjn
                  obtain ⟨Z, hZ⟩ : ∃ Z, Z = (#[.int .i64 0, .bool false, .int .u64 0, .int .u64 0, .int .u64 0, .int .u64 0] : Array Value) := ⟨_, rfl⟩
                  have HGA := Lib.hid (show Below _ _ (w5.alloc (.cells #[.int .i64 0, .bool false, .int .u64 0, .int .u64 0, .int .u64 0, .int .u64 0] 66)) from grows HG5.out (below_alloc _ _))
                  obtain ⟨a0, a1, a2, aed⟩ := HC1.out _ HGA.out
                  obtain ⟨b4, o4, hA4, _, hp⟩ := aed j _ HXX.out
                  injection hA4 with hA4; injection hA4 with q1 q2 _; subst q1; subst q2
                  have f0 := hp.c0
                  have f1 := hp.c1
                  have f2 := hp.cs 0 x0 rfl
                  have f3 := hp.cs 1 x1 rfl
                  have f4 := hp.cs 2 x2 rfl
                  have f5 := hp.cs 3 x3 rfl
                  dsimp only at f0 f1
                  clear hp aed hZ
                  go_wp2
                  go_region
                  obtain ⟨w6, hw6⟩ : ∃ w6, w6 = (w5.alloc (.cells #[.int .i64 xt, .bool xf, .int .u64 (x0 : Int), .int .u64 (x1 : Int), .int .u64 (x2 : Int), .int .u64 (x3 : Int)] 66)).drew := ⟨_, rfl⟩
                  have HG6 := Lib.hid (show Below _ _ w6 from by rw [hw6]; exact (grows HG5.out (below_alloc w5 (.cells #[.int .i64 xt, .bool xf, .int .u64 (x0 : Int), .int .u64 (x1 : Int), .int .u64 (x2 : Int), .int .u64 (x3 : Int)] 66))).drew)
                  have HJ6 : Hid (ints w6 w.heap.size 3 (.slice A7 D.length c7) D) := Lib.hid (by rw [hw6]; exact HJ5.out.below (below_drew (below_alloc w5 _)))
                  have HBK : Hid (Blk w6 w5.heap.size 66 #[.int .i64 xt, .bool xf, .int .u64 (x0 : Int), .int .u64 (x1 : Int), .int .u64 (x2 : Int), .int .u64 (x3 : Int)]) := Lib.hid (by rw [hw6]; exact (Blk.fresh w5 _ _).draws 1)
                  rw [← hw6]
                  have s0 : w6.cell? ⟨w5.heap.size, 0, none⟩ = some (.int .i64 xt) := HBK.out.cell 0
                  have s1 : w6.cell? ⟨w5.heap.size, 1, none⟩ = some (.bool xf) := HBK.out.cell 1
                  clear hw6 d0 d1 d2 e0 e1 e2 e3 e4 e5 a0 a1 a2 f0 f1 f2 f3 f4 f5
                  have HPE : Hid (∀ q, pas A.E C i (j + 1) q ↔ pas A.E C i j q ∨ (xf = true ∧ xt = (q : Int))) := Lib.hid (fun q => pas_edge HPI.out HL.out HXX.out)
                  have hex := HOK.out.e l (List.mem_of_getElem? HL.out) _ (List.mem_of_getElem? HXX.out)
                  cases xf with
                  | false =>
                    have HNX : Hid (isL D (fun q => P q ∨ pas A.E C i (j + 1) q)) := Lib.hid (HD.out.congr (fun q => by rw [HPE.out q]; simp))
                    clear hex
                    go_wp2
                    go_roundw
                    case rel => exact ⟨j + 1, _, _, rfl, by go_num, by have := HJN.out; omega, HJ6, HNX, HG6⟩
                    case measure => have := HJN.out; simp [intOf]; omega
                  | true =>
                    obtain ⟨y, hy⟩ := Int.eq_ofNat_of_zero_le hex.1
                    dsimp only at hy
                    subst hy
                    have HNX : Hid (isL (putQ D (y : Int)) (fun q => P q ∨ pas A.E C i (j + 1) q)) := Lib.hid ((HD.out.put y).congr (fun q => by
                      rw [HPE.out q]
                      constructor
                      · rintro (rfl | h | h)
                        · exact .inr (.inr ⟨rfl, rfl⟩)
                        · exact .inl h
                        · exact .inr (.inl h)
                      · rintro (h | h | ⟨_, h⟩)
                        · exact .inr (.inl h)
                        · exact .inr (.inr h)
                        · exact .inl (by omega)))
                    have HPP := Lib.hid (HPU.out w6 w.heap.size _ D (y : Int) HD9.out HD.out.a (Nat.le_trans HBI.out.size HG6.out.size) HJ6.out)
                    clear hex
                    go_wp2_with (go_at_call 40; refine HPP.out.mono ?_; rintro e w7 ⟨v7, rfl, i7, k7⟩; have I7 := Lib.hid i7; have K7 := Lib.hid (grows HG6.out k7); obtain ⟨A8, c8, hv8⟩ := i7.form; subst hv8; clear i7 k7)
                    go_roundw
                    case rel => exact ⟨j + 1, _, _, rfl, by go_num, by have := HJN.out; omega, I7, HNX, K7⟩
                    case measure => have := HJN.out; simp [intOf]; omega
                · have hjn' : ¬ (j : Int) < (X : Int) := by omega
                  have hj0 : (0 : Int) ≤ (j : Int) := by omega
                  have HJX : Hid (j = l.length) := Lib.hid (by have := HXL.out; omega)
                  have HNX : Hid (isL D (fun q => P q ∨ pas A.E C (i + 1) 0 q)) := Lib.hid (HD.out.congr (fun q => by rw [pas_next HPI.out HL.out, ← HJX.out]))
                  clear hjn hj
                  go_wp2
                  go_quiet (fail)
                  go_wp2
                  go_roundw
                  case rel => exact ⟨i + 1, _, _, rfl, by go_num, by have := HIN.out; omega, Lib.hid (HJ.out.draws _), HNX, Lib.hid (below_drews (grows HE.out HG.out) _)⟩
                  case measure => have := HIN.out; simp [intOf]; omega
            · have hin' : ¬ (i : Int) < (N : Int) := by omega
              have HIE : Hid (i = C.length) := Lib.hid (by have := HN.out; omega)
              have HQ : Hid (∀ q, (P q ∨ pas A.E C i 0 q) ↔ P q ∨ ∃ p, P p ∧ fre A.E p q) := Lib.hid (fun q => by rw [HIE.out, pas_all HC.out])
              clear hin hi
              by_cases hlen : D.length = C.length
              · have hlen' : ((D.length : Int) == (C.length : Int)) = true := by simp [hlen]
                have HR : Hid (isL D (clo A.E (fun q => (q : Int) ∈ S))) := Lib.hid (HD.out.congr (fun q => closed HC.out HD.out HQ.out hlen (fun q h1 h2 => HP1.out q h1 (by rw [HKE.out]; exact h2)) HP2.out q))
                have HBF := Lib.hid (grows (grows B2.out HB.out) HE.out)
                have HNC : Hid (N = C.length) := HN
                clear hlen
                go_wp2
                go_ret
                exact ⟨_, D, rfl, HJ.out, fun _ => HR.out, fun k => absurd HOK.out k, HBF.out⟩
              · have hlen' : ((D.length : Int) == (C.length : Int)) = false := by rw [beq_eq_false_iff_ne]; omega
                have HQ2 : Hid (∀ q : Nat, (P q ∨ pas A.E C i 0 q) → clo A.E (fun q => (q : Int) ∈ S) q) := Lib.hid (fun q h => by
                  rcases (HQ.out q).1 h with h | ⟨p, h1, h2⟩
                  · exact HP2.out q h
                  · exact clo_step (HP2.out p h1) h2)
                have HLE : Hid (C.length < D.length ∧ D.length ≤ K) := Lib.hid (by
                  have h1 := (asc_sub HC.out.a HD.out.a (fun x hx => by obtain ⟨q, rfl, hq⟩ := (HC.out.m x).1 hx; exact (HD.out.mem q).2 (.inl hq))).1
                  have h2 := HD.out.len (n := K) (fun q h => by rw [HKE.out]; exact clo_lt (okA.free HOK.out) (HQ2.out q h))
                  omega)
                have HBF := Lib.hid (grows HB.out HE.out)
                clear hlen
                go_wp2
                go_roundw
                case rel => exact ⟨_, D, _, rfl, HJ, HD, Lib.hid (fun q h1 h2 => .inl (HP1.out q h1 h2)), HQ2, HBF⟩
                case measure => have := HLE.out; have := HN.out; simp [lenV]; omega
end Go.Proofs.Ythjelilmlbbalaa.Ab
namespace Go.Proofs.Ythjelilmlbbalaa.Ad
open Go.RowKit Go.Proofs.Ythjelilmlbbalaa.Bw Go.Proofs.Ythjelilmlbbalaa.Na Go.Proofs.Ythjelilmlbbalaa.Ko Go.Proofs.Ythjelilmlbbalaa.Tm Go.Proofs.Ythjelilmlbbalaa.Tb Go.Proofs.Ythjelilmlbbalaa.Te Go.Proofs.Ythjelilmlbbalaa.Tf Go.Proofs.Ythjelilmlbbalaa.Tj Go.Proofs.Ythjelilmlbbalaa.Rm Go.Proofs.Ythjelilmlbbalaa.Ra Go.Proofs.Ythjelilmlbbalaa.Am Go.Proofs.Ythjelilmlbbalaa.An Go.Proofs.Ythjelilmlbbalaa.Ac Go.Proofs.Ythjelilmlbbalaa.Aa Go.Proofs.Ythjelilmlbbalaa.Aw Go.Proofs.Ythjelilmlbbalaa.Ax Go.Proofs.Ythjelilmlbbalaa.Ab

/-- Where edges of a kind lead, of the first so many of some states, and of the next one's first so many edges. -/
def pg (g : Eg → Bool) (E : List (List Eg)) (now : List Int) (i j : Nat) (q : Nat) : Prop :=
  (∃ a, a < i ∧ ∃ p : Nat, now[a]? = some (p : Int) ∧ ∃ l e, E[p]? = some l ∧ e ∈ l ∧ g e = true ∧ e.to = (q : Int)) ∨ (∃ p : Nat, now[i]? = some (p : Int) ∧ ∃ l e, E[p]? = some l ∧ ∃ b, b < j ∧ l[b]? = some e ∧ g e = true ∧ e.to = (q : Int))
section
variable {g : Eg → Bool} {E : List (List Eg)} {now : List Int}
theorem pg_zero {q : Nat} : ¬ pg g E now 0 0 q := by
  rintro (⟨a, h, _⟩ | ⟨p, _, l, e, _, b, h, _⟩)
  · omega
  · omega
theorem pg_edge {i j p q : Nat} {l : List Eg} {e : Eg} (hp : now[i]? = some (p : Int)) (hl : E[p]? = some l) (he : l[j]? = some e) : pg g E now i (j + 1) q ↔ pg g E now i j q ∨ (g e = true ∧ e.to = (q : Int)) := by
  unfold pg
  constructor
  · rintro (h | ⟨p', hp', l', e', hl', b, hb, he', hf, ht⟩)
    · exact .inl (.inl h)
    · rcases (show b < j ∨ b = j by omega) with h | rfl
      · exact .inl (.inr ⟨p', hp', l', e', hl', b, h, he', hf, ht⟩)
      · rw [hp] at hp'
        obtain rfl : p = p' := by have := Option.some.inj hp'; omega
        rw [hl] at hl'
        obtain rfl := Option.some.inj hl'
        rw [he] at he'
        obtain rfl := Option.some.inj he'
        exact .inr ⟨hf, ht⟩
  · rintro ((h | ⟨p', hp', l', e', hl', b, hb, he', hf, ht⟩) | ⟨hf, ht⟩)
    · exact .inl h
    · exact .inr ⟨p', hp', l', e', hl', b, by omega, he', hf, ht⟩
    · exact .inr ⟨p, hp, l, e, hl, j, by omega, he, hf, ht⟩
theorem pg_next {i p q : Nat} {l : List Eg} (hp : now[i]? = some (p : Int)) (hl : E[p]? = some l) : pg g E now (i + 1) 0 q ↔ pg g E now i l.length q := by
  unfold pg
  constructor
  · rintro (⟨a, ha, p', hp', l', e, hl', he, h1, h2⟩ | ⟨_, _, _, _, _, b, hb, _⟩)
    · rcases (show a < i ∨ a = i by omega) with h | rfl
      · exact .inl ⟨a, h, p', hp', l', e, hl', he, h1, h2⟩
      · obtain ⟨b, hb⟩ := List.mem_iff_getElem?.1 he
        exact .inr ⟨p', hp', l', e, hl', b, by
          rw [hp] at hp'
          obtain rfl : p = p' := by have := Option.some.inj hp'; omega
          rw [hl] at hl'
          obtain rfl := Option.some.inj hl'
          exact (List.getElem?_eq_some_iff.1 hb).1, hb, h1, h2⟩
    · omega
  · rintro (⟨a, ha, h⟩ | ⟨p', hp', l', e, hl', b, hb, he, h1, h2⟩)
    · exact .inl ⟨a, by omega, h⟩
    · exact .inl ⟨i, by omega, p', hp', l', e, hl', List.mem_of_getElem? he, h1, h2⟩
/-- What is no state has no edges. -/
theorem pg_none {i q : Nat} {z : Int} (hz : now[i]? = some z) (h : z < 0 ∨ (E.length : Int) ≤ z) : pg g E now (i + 1) 0 q ↔ pg g E now i 0 q := by
  unfold pg
  constructor
  · rintro (⟨a, ha, p', hp', l', e, hl', he, h1, h2⟩ | ⟨_, _, _, _, _, b, hb, _⟩)
    · rcases (show a < i ∨ a = i by omega) with k | rfl
      · exact .inl ⟨a, k, p', hp', l', e, hl', he, h1, h2⟩
      · rw [hz] at hp'
        have h3 := Option.some.inj hp'
        have h4 := (List.getElem?_eq_some_iff.1 hl').1
        omega
    · omega
  · rintro (⟨a, ha, h⟩ | ⟨_, _, _, _, _, b, hb, _⟩)
    · exact .inl ⟨a, by omega, h⟩
    · omega
theorem pg_all {q : Nat} : pg g E now now.length 0 q ↔ ∃ p : Nat, (p : Int) ∈ now ∧ ∃ l e, E[p]? = some l ∧ e ∈ l ∧ g e = true ∧ e.to = (q : Int) := by
  unfold pg
  constructor
  · rintro (⟨a, _, p, hp, h⟩ | ⟨_, _, _, _, _, b, hb, _⟩)
    · exact ⟨p, List.mem_of_getElem? hp, h⟩
    · omega
  · rintro ⟨p, hp, h⟩
    obtain ⟨a, ha⟩ := List.mem_iff_getElem?.1 hp
    exact .inl ⟨a, (List.getElem?_eq_some_iff.1 ha).1, p, ha, h⟩
theorem pg_lt {A : Au} (h : okA A) {i j q : Nat} (k : pg g A.E now i j q) : q < A.E.length := by
  rcases k with ⟨_, _, p, _, l, e, hl, he, _, ht⟩ | ⟨p, _, l, e, hl, b, _, he, _, ht⟩
  · have := h.e l (List.mem_of_getElem? hl) e he; omega
  · have := h.e l (List.mem_of_getElem? hl) e (List.mem_of_getElem? he); omega
end
/-- An edge by a byte. -/
def gB (c : Nat) (e : Eg) : Bool := !e.free && has e.s c
theorem byE_iff {E : List (List Eg)} {c p q : Nat} : byE E c p q ↔ ∃ l e, E[p]? = some l ∧ e ∈ l ∧ gB c e = true ∧ e.to = (q : Int) := by
  unfold byE gB
  constructor
  · rintro ⟨l, e, h1, h2, h3, h4, h5⟩
    exact ⟨l, e, h1, h2, by rw [h3, h4]; rfl, h5⟩
  · rintro ⟨l, e, h1, h2, h3, h5⟩
    rw [Bool.and_eq_true, Bool.not_eq_true'] at h3
    exact ⟨l, e, h1, h2, h3.1, h3.2, h5⟩
/-- What Step answers. -/
def ansS (A : Au) (c : Nat) (S : Nat → Prop) (w : World) (e : Ending) (w' : World) : Prop := ∃ v C, e = .returned v ∧ ints w' w.heap.size 3 v C ∧ (okA A → isL C (stp A.E c S)) ∧ (¬ okA A → C = []) ∧ Below w.heap.size w w'
set_option maxHeartbeats 4000000 in
set_option maxRecDepth 100000 in
theorem rStep_any {A : Au} (hE : A.E.length ≤ 1000000) (hM : A.R.length ≤ 1000000) (hrow : ∀ l ∈ A.E, l.length ≤ 1000000) {A1 A2 As : Option Addr} {c1 c2 cs : Nat} {S : List Int} (hS : S.length ≤ 1000000) {w : World} (H : Hid (nfa w A1 A2 A)) (HSR : Hid (row w As S.length (at0 S))) {c : Nat} (hc : c < 256) :
    Calls Try.prog 23 #[nv A1 A2 c1 c2 A, .slice As S.length cs, .int .u8 (c : Int)] w fun e w' => ansS A c (fun q => (q : Int) ∈ S) w e w' := by
  have HRI : Hid (∀ u, nfa u A1 A2 A → Calls Try.prog 13 #[nv A1 A2 c1 c2 A] u fun e w' => ansB (okA A) u e w') := Lib.hid (fun u h => rRight_any hE hM hrow (Lib.hid h))
  have HPU : Hid (∀ (u : World) (B : Nat) (v : Value) (L : List Int) (n : Int), L.length ≤ 100000 → asc L → B ≤ u.heap.size → ints u B 3 v L → Calls Try.prog 40 #[v, .int .i64 n] u fun e w' => ∃ v', e = .returned v' ∧ ints w' B 3 v' (putQ L n) ∧ Below u.heap.size u w') := Lib.hid (fun u B v L n h1 h2 h3 h4 => put_any h1 h2 h3 (Lib.hid h4))
  have HCL : Hid (∀ (u : World) (Ad : Option Addr) (cd : Nat) (D : List Int), D.length ≤ 1000000 → nfa u A1 A2 A → row u Ad D.length (at0 D) → Calls Try.prog 21 #[nv A1 A2 c1 c2 A, .slice Ad D.length cd] u fun e w' => ansC A (fun q => (q : Int) ∈ D) u e w') := Lib.hid (fun u Ad cd D h1 h2 h3 => rClosure_any hE hM hrow h1 (Lib.hid h2) (Lib.hid h3))
  have HHA : Hid (∀ (u : World) (x0 x1 x2 x3 : Nat), isSet [x0, x1, x2, x3] → Calls Try.prog 41 #[.agg #[.int .u64 (x0 : Int), .int .u64 (x1 : Int), .int .u64 (x2 : Int), .int .u64 (x3 : Int)], .int .u8 (c : Int)] u fun e w' => e = .returned (.bool (has [x0, x1, x2, x3] c)) ∧ Below u.heap.size u w') := Lib.hid (fun u x0 x1 x2 x3 h => rHas_any h hc u)
  unfold nv at HRI HCL ⊢
  have HROW := Lib.hid hrow
  obtain ⟨K, hK⟩ : ∃ K, K = A.E.length := ⟨_, rfl⟩
  obtain ⟨M, hMM⟩ : ∃ M, M = A.R.length := ⟨_, rfl⟩
  obtain ⟨F, hF⟩ : ∃ F, F = A.first := ⟨_, rfl⟩
  obtain ⟨m, hm⟩ : ∃ m, m = S.length := ⟨_, rfl⟩
  have HKE := Lib.hid hK
  have HSM := Lib.hid hm
  rw [← hK] at hE
  rw [← hMM] at hM
  rw [← hm] at hS HSR ⊢
  rw [← hK, ← hMM, ← hF] at HRI HCL ⊢
  obtain ⟨w1, hw1⟩ : ∃ w1, w1 = w.alloc (.cells #[.slice A1 K c1, .int .i64 F, .slice A2 M c2] 28) := ⟨_, rfl⟩
  have B1 : Hid (Below w.heap.size w w1) := Lib.hid (by rw [hw1]; exact below_alloc _ _)
  have K1 : Hid (Blk w1 w.heap.size 28 #[.slice A1 K c1, .int .i64 F, .slice A2 M c2]) := Lib.hid (by rw [hw1]; exact Blk.fresh _ _ _)
  have d0 : w1.cell? ⟨w.heap.size, 0, none⟩ = some (.slice A1 K c1) := K1.out.cell 0
  have d1 : w1.cell? ⟨w.heap.size, 1, none⟩ = some (.int .i64 F) := K1.out.cell 1
  have d2 : w1.cell? ⟨w.heap.size, 2, none⟩ = some (.slice A2 M c2) := K1.out.cell 2
  clear hK hMM hF hrow hm hc
  go_enter Try.func23, Try.ntmps23
  go_upto_region 1 with fail
  rw [← hw1]
  clear hw1
  go_wp2_with (go_at_call 13; refine (HRI.out _ (H.out.below B1.out)).mono ?_; rintro e w2 ⟨rb, rfl, hrb, k2⟩; have HRB := Lib.hid hrb; have B2 := Lib.hid (grows B1.out k2); have K2 := Lib.hid (K1.out.below k2); clear hrb k2 d0 d1 d2; cases rb)
  · have HX : Hid (¬ okA A) := Lib.hid (fun k => by have := HRB.out.2 k; cases this)
    go_wp2
    go_ret
    exact ⟨_, [], rfl, ints_nil _ _ _, fun k => absurd k HX.out, fun _ => rfl, B2.out⟩
  · have HOK : Hid (okA A) := Lib.hid (HRB.out.1 (by simp))
    have hK3 : K ≤ 3000 := by rw [HKE.out]; exact HOK.out.hi
    go_wp2
    go_loopw [7, 8, 9, 10] (fun s7 s8 _ _ wr => ∃ (i : Nat) (v : Value) (D : List Int), s7 = v ∧ s8 = .int .i64 (i : Int) ∧ i ≤ m ∧ Hid (ints wr w.heap.size 3 v D) ∧ Hid (isL D (pg (gB c) A.E S i 0)) ∧ Hid (Below w2.heap.size w2 wr)) (fun _ s8 _ _ _ => m - (intOf s8).toNat)
    case atStart => exact ⟨0, _, [], rfl, rfl, by omega, Lib.hid (ints_nil _ _ _), Lib.hid (isL_nil.congr (fun q => ⟨False.elim, fun h => pg_zero h⟩)), Lib.hid (Below.refl _ _)⟩
    case round =>
      obtain ⟨i, v, D, rfl, rfl, hi, HJ, HD, HB⟩ := hrel
      obtain ⟨A5, c5, hv⟩ := HJ.out.form
      subst hv
      have HW := Lib.hid (grows B2.out HB.out)
      have d0 := ((K2.out.below HB.out).cell 0)
      have hDK : D.length ≤ K := HD.out.len (fun q h => by rw [HKE.out]; exact pg_lt HOK.out h)
      by_cases him : i < m
      · have him' : (i : Int) < (m : Int) := by omega
        have hi0 : (0 : Int) ≤ (i : Int) := by omega
        have HIM := Lib.hid him
        obtain ⟨bs, os, rfl, hbs, hcs⟩ := (HSR.out.below HW.out) i him
        obtain ⟨z, hz⟩ : ∃ z, z = at0 S i := ⟨_, rfl⟩
        rw [← hz] at hcs
        have HSZ : Hid (S[i]? = some z) := Lib.hid (by rw [hz]; exact at0_get (by rw [← HSM.out]; exact him))
        have HBS := Lib.hid hbs
        clear hz him hbs hDK
        by_cases hz : 0 ≤ z ∧ z < (K : Int)
        · obtain ⟨hz0, hzK⟩ := hz
          obtain ⟨p, rfl⟩ := Int.eq_ofNat_of_zero_le hz0
          have hpK : p < K := by omega
          obtain ⟨l, hl⟩ : ∃ l, A.E[p]? = some l := ⟨_, List.getElem?_eq_getElem (by rw [← HKE.out]; exact hpK)⟩
          have HL := Lib.hid hl
          have hll : l.length ≤ 1000000 := HROW.out l (List.mem_of_getElem? hl)
          obtain ⟨b1, o1, rfl, hb1, A', c', hrw, _, hed⟩ := (H.out.e.below HW.out) p l hl
          have hzn : ¬ (p : Int) < 0 := by omega
          have hzk : ¬ (K : Int) ≤ (p : Int) := by omega
          obtain ⟨X, hX⟩ : ∃ X, X = l.length := ⟨_, rfl⟩
          have HXL := Lib.hid hX
          rw [← hX] at hrw hll
          have HKB := Lib.hid (K2.out.below HB.out)
          have HC1 : Hid (∀ u, Below wr.heap.size wr u → u.cell? ⟨w.heap.size, 0, none⟩ = some (.slice (some ⟨b1, o1, none⟩) K c1) ∧ u.cell? ⟨b1, o1 + p, none⟩ = some (.slice A' X c') ∧ u.cell? ⟨bs, os + i, none⟩ = some (.int .i64 (p : Int)) ∧ eds u A' l) := Lib.hid (fun u k => ⟨(HKB.out.below k).cell 0, (k.cell (p := ⟨b1, o1 + p, none⟩) hb1).trans hrw, (k.cell (p := ⟨bs, os + i, none⟩) HBS.out).trans hcs, hed.below k⟩)
          clear hl hb1 hrw hed hX hpK
          go_wp2
          go_quiet (fail)
          obtain ⟨w4, hw4⟩ : ∃ w4, w4 = wr.drewN nq := ⟨_, rfl⟩
          have HG4 : Hid (Below wr.heap.size wr w4) := Lib.hid (by rw [hw4]; exact below_draws _ _)
          rw [← hw4]
          clear hw4 hcs d0
          go_wp2
          have t1 : decide ((p : Int) < 0) = false := decide_eq_false (by omega)
          have t2 : decide (K ≤ p) = false := decide_eq_false (by omega)
          simp only [t1, t2, Bool.or_false]
          clear t1 t2 hzn hzk
          go_loopw [7, 9, 10] (fun s7 s9 _ wz => ∃ (j : Nat) (v : Value) (D : List Int), s7 = v ∧ s9 = .int .i64 (j : Int) ∧ j ≤ X ∧ Hid (ints wz w.heap.size 3 v D) ∧ Hid (isL D (pg (gB c) A.E S i j)) ∧ Hid (Below wr.heap.size wr wz)) (fun _ s9 _ _ => X - (intOf s9).toNat)
          case atStart => exact ⟨0, _, D, rfl, rfl, by omega, Lib.hid (HJ.out.below HG4.out), HD, HG4⟩
          case round =>
            clear HJ HD
            obtain ⟨j, v, D, rfl, rfl, hj, HJ, HD, HG⟩ := hrel
            obtain ⟨A7, c7, hv⟩ := HJ.out.form
            subst hv
            have hDK : D.length ≤ K := HD.out.len (fun q h => by rw [HKE.out]; exact pg_lt HOK.out h)
            obtain ⟨d0, d1, d2, _⟩ := HC1.out wr HG.out
            have hD9 : D.length ≤ 100000 := by omega
            have HD9 := Lib.hid hD9
            clear hDK hD9
            by_cases hjn : j < X
            · have hjn' : (j : Int) < (X : Int) := by omega
              have hj0 : (0 : Int) ≤ (j : Int) := by omega
              have HJN := Lib.hid hjn
              obtain ⟨x, hx⟩ : ∃ x, l[j]? = some x := ⟨_, List.getElem?_eq_getElem (by rw [← HXL.out]; exact hjn)⟩
              have HXX := Lib.hid hx
              go_wp2
              go_quiet (fail)
              obtain ⟨w5, hw5⟩ : ∃ w5, w5 = wr.drewN nq := ⟨_, rfl⟩
              have HG5 := Lib.hid (show Below _ _ w5 from by rw [hw5]; exact below_drews HG.out nq)
              have HJ5 : Hid (ints w5 w.heap.size 3 (.slice A7 D.length c7) D) := Lib.hid (by rw [hw5]; exact HJ.out.draws _)
              rw [← hw5]
              clear hw5 d0 d1 d2
              obtain ⟨d0, d1, d2, hed⟩ := HC1.out w5 HG5.out
              obtain ⟨b3, o3, rfl, hb3, hp⟩ := hed j x hx
              have HSET := Lib.hid hp.s
              have e0 := hp.c0
              have e1 := hp.c1
              obtain ⟨x0, x1, x2, x3, hs, e2, e3, e4, e5⟩ := hp.four
              obtain ⟨xt, xf, xs⟩ := x
              dsimp only at e0 e1 hs HSET
              subst hs
              clear hx hp hed hb3 hjn
              have HGA := Lib.hid (show Below _ _ (w5.alloc (.cells #[.int .i64 0, .bool false, .int .u64 0, .int .u64 0, .int .u64 0, .int .u64 0] 66)) from grows HG5.out (below_alloc _ _))
              obtain ⟨a0, a1, a2, aed⟩ := HC1.out _ HGA.out
              obtain ⟨b4, o4, hA4, _, hp⟩ := aed j _ HXX.out
              injection hA4 with hA4; injection hA4 with q1 q2 _; subst q1; subst q2
              have f0 := hp.c0
              have f1 := hp.c1
              have f2 := hp.cs 0 x0 rfl
              have f3 := hp.cs 1 x1 rfl
              have f4 := hp.cs 2 x2 rfl
              have f5 := hp.cs 3 x3 rfl
              dsimp only at f0 f1
              clear hp aed
              go_wp2
              go_region
              obtain ⟨w6, hw6⟩ : ∃ w6, w6 = (w5.alloc (.cells #[.int .i64 xt, .bool xf, .int .u64 (x0 : Int), .int .u64 (x1 : Int), .int .u64 (x2 : Int), .int .u64 (x3 : Int)] 66)).drew := ⟨_, rfl⟩
              have HG6 := Lib.hid (show Below _ _ w6 from by rw [hw6]; exact (grows HG5.out (below_alloc w5 (.cells #[.int .i64 xt, .bool xf, .int .u64 (x0 : Int), .int .u64 (x1 : Int), .int .u64 (x2 : Int), .int .u64 (x3 : Int)] 66))).drew)
              have HJ6 : Hid (ints w6 w.heap.size 3 (.slice A7 D.length c7) D) := Lib.hid (by rw [hw6]; exact HJ5.out.below (below_drew (below_alloc w5 _)))
              have HBK : Hid (Blk w6 w5.heap.size 66 #[.int .i64 xt, .bool xf, .int .u64 (x0 : Int), .int .u64 (x1 : Int), .int .u64 (x2 : Int), .int .u64 (x3 : Int)]) := Lib.hid (by rw [hw6]; exact (Blk.fresh w5 _ _).draws 1)
              rw [← hw6]
              have s0 : w6.cell? ⟨w5.heap.size, 0, none⟩ = some (.int .i64 xt) := HBK.out.cell 0
              have s1 : w6.cell? ⟨w5.heap.size, 1, none⟩ = some (.bool xf) := HBK.out.cell 1
              have s2 : w6.cell? ⟨w5.heap.size, 2, none⟩ = some (.int .u64 (x0 : Int)) := HBK.out.cell 2
              have s3 : w6.cell? ⟨w5.heap.size, 3, none⟩ = some (.int .u64 (x1 : Int)) := HBK.out.cell 3
              have s4 : w6.cell? ⟨w5.heap.size, 4, none⟩ = some (.int .u64 (x2 : Int)) := HBK.out.cell 4
              have s5 : w6.cell? ⟨w5.heap.size, 5, none⟩ = some (.int .u64 (x3 : Int)) := HBK.out.cell 5
              clear hw6 d0 d1 d2 e0 e1 e2 e3 e4 e5 a0 a1 a2 f0 f1 f2 f3 f4 f5
              have HPE : Hid (∀ q, pg (gB c) A.E S i (j + 1) q ↔ pg (gB c) A.E S i j q ∨ (gB c ⟨xt, xf, [x0, x1, x2, x3]⟩ = true ∧ xt = (q : Int))) := Lib.hid (fun q => pg_edge HSZ.out HL.out HXX.out)
              have hex := HOK.out.e l (List.mem_of_getElem? HL.out) _ (List.mem_of_getElem? HXX.out)
              cases xf with
              | true =>
                have HNX : Hid (isL D (pg (gB c) A.E S i (j + 1))) := Lib.hid (HD.out.congr (fun q => by rw [HPE.out q]; simp [gB]))
                clear hex
                go_wp2
                go_roundw
                case rel => exact ⟨j + 1, _, _, rfl, by go_num, by have := HJN.out; omega, HJ6, HNX, HG6⟩
                case measure => have := HJN.out; simp [intOf]; omega
              | false =>
                obtain ⟨hb, hhb⟩ : ∃ hb, hb = has [x0, x1, x2, x3] c := ⟨_, rfl⟩
                have HCH := Lib.hid (HHA.out w6 x0 x1 x2 x3 HSET.out)
                rw [← hhb] at HCH
                have HHB := Lib.hid hhb
                clear hhb
                have HBS9 := Lib.hid HBK.out
                cases hb with
                | false =>
                  have HNX : Hid (isL D (pg (gB c) A.E S i (j + 1))) := Lib.hid (HD.out.congr (fun q => by rw [HPE.out q]; simp [gB, ← HHB.out]))
                  clear hex
                  go_wp2_with (go_at_call 41; refine HCH.out.mono ?_; rintro e w8 ⟨rfl, k8⟩; have K8 := Lib.hid (grows HG6.out k8); have J8 := Lib.hid (HJ6.out.below k8); clear k8)
                  go_roundw
                  case rel => exact ⟨j + 1, _, _, rfl, by go_num, by have := HJN.out; omega, J8, HNX, K8⟩
                  case measure => have := HJN.out; simp [intOf]; omega
                | true =>
                  obtain ⟨y, hy⟩ := Int.eq_ofNat_of_zero_le hex.1
                  dsimp only at hy
                  subst hy
                  have HNX : Hid (isL (putQ D (y : Int)) (pg (gB c) A.E S i (j + 1))) := Lib.hid ((HD.out.put y).congr (fun q => by
                    rw [HPE.out q]
                    constructor
                    · rintro (rfl | h)
                      · exact .inr ⟨by simp [gB, ← HHB.out], rfl⟩
                      · exact .inl h
                    · rintro (h | ⟨_, h⟩)
                      · exact .inr h
                      · exact .inl (by omega)))
                  clear hex
                  have HPP := Lib.hid (fun (u : World) (h1 : w.heap.size ≤ u.heap.size) (h2 : ints u w.heap.size 3 (.slice A7 D.length c7) D) => HPU.out u w.heap.size _ D (y : Int) HD9.out HD.out.a h1 h2)
                  have HWS : Hid (w.heap.size ≤ w6.heap.size) := Lib.hid (Nat.le_trans HW.out.size HG6.out.size)
                  go_wp2_with (first | (go_at_call 41; refine HCH.out.mono ?_; rintro e w8 ⟨rfl, k8⟩; have K8 := Lib.hid (grows HG6.out k8); have J8 := Lib.hid (HJ6.out.below k8); have HW8 := Lib.hid (Nat.le_trans HWS.out k8.size); have t0 := (HBS9.out.below k8).cell 0; clear k8 s0 s1 s2 s3 s4 s5) | (go_at_call 40; refine (HPP.out _ HW8.out J8.out).mono ?_; rintro e w7 ⟨v7, rfl, i7, k7⟩; have I7 := Lib.hid i7; have K7 := Lib.hid (grows K8.out k7); obtain ⟨A8, c8, hv8⟩ := i7.form; subst hv8; clear i7 k7))
                  go_roundw
                  case rel => exact ⟨j + 1, _, _, rfl, by go_num, by have := HJN.out; omega, I7, HNX, K7⟩
                  case measure => have := HJN.out; simp [intOf]; omega
            · have hjn' : ¬ (j : Int) < (X : Int) := by omega
              have hj0 : (0 : Int) ≤ (j : Int) := by omega
              have HJX : Hid (j = l.length) := Lib.hid (by have := HXL.out; omega)
              have HNX : Hid (isL D (pg (gB c) A.E S (i + 1) 0)) := Lib.hid (HD.out.congr (fun q => by rw [pg_next HSZ.out HL.out, ← HJX.out]))
              clear hjn hj
              go_wp2
              go_quiet (fail)
              go_wp2
              go_roundw
              case rel => exact ⟨i + 1, _, _, rfl, by go_num, by have := HIM.out; omega, Lib.hid (HJ.out.draws _), HNX, Lib.hid (below_drews (grows HB.out HG.out) _)⟩
              case measure => have := HIM.out; simp [intOf]; omega
        · have HNX : Hid (isL D (pg (gB c) A.E S (i + 1) 0)) := Lib.hid (HD.out.congr (fun q => (pg_none HSZ.out (by rw [← HKE.out]; omega)).symm))
          by_cases hz0 : z < 0
          · clear hz
            go_wp2
            go_quiet (fail)
            go_wp2
            go_roundw
            case rel => exact ⟨i + 1, _, _, rfl, by go_num, by have := HIM.out; omega, Lib.hid (HJ.out.draws _), HNX, Lib.hid (below_drews HB.out _)⟩
            case measure => have := HIM.out; simp [intOf]; omega
          · have hz0' : decide (z < 0) = false := by simp; omega
            have hzK : (K : Int) ≤ z := by omega
            clear hz
            go_wp2
            go_quiet (fail)
            go_wp2
            go_roundw
            case rel => exact ⟨i + 1, _, _, rfl, by go_num, by have := HIM.out; omega, Lib.hid (HJ.out.draws _), HNX, Lib.hid (below_drews HB.out _)⟩
            case measure => have := HIM.out; simp [intOf]; omega
      · have him' : ¬ (i : Int) < (m : Int) := by omega
        have HIE : Hid (i = S.length) := Lib.hid (by have := HSM.out; omega)
        have d1 := ((K2.out.below HB.out).cell 1)
        have d2 := ((K2.out.below HB.out).cell 2)
        have HDR : Hid (row wr A5 D.length (at0 D)) := Lib.hid HJ.out.row
        have HCC := Lib.hid (HCL.out wr A5 c5 D (by omega) (H.out.below HW.out) HDR.out)
        have HEQ : Hid (∀ q, clo A.E (fun q => (q : Int) ∈ D) q ↔ stp A.E c (fun q => (q : Int) ∈ S) q) := Lib.hid (fun q => by
          have h1 : ∀ q : Nat, (q : Int) ∈ D ↔ ∃ p : Nat, (p : Int) ∈ S ∧ byE A.E c p q := fun q => by
            rw [HD.out.mem q, HIE.out, pg_all]
            exact ⟨fun ⟨p, h, k⟩ => ⟨p, h, byE_iff.2 k⟩, fun ⟨p, h, k⟩ => ⟨p, h, byE_iff.1 k⟩⟩
          unfold stp clo
          exact ⟨fun ⟨p, h, k⟩ => ⟨p, (h1 p).1 h, k⟩, fun ⟨p, h, k⟩ => ⟨p, (h1 p).2 h, k⟩⟩)
        clear him hDK
        go_wp2_with (go_at_call 21; refine HCC.out.mono ?_; rintro e w9 ⟨v9, C9, rfl, i9, q9, r9, k9⟩; have I9 := Lib.hid (ints_mono HW.out.size i9); have Q9 := Lib.hid q9; have K9 := Lib.hid (grows HW.out k9); obtain ⟨A9, c9, hv9⟩ := i9.form; subst hv9; clear i9 q9 r9 k9)
        go_ret
        exact ⟨_, C9, rfl, I9.out, fun k => (Q9.out k).congr HEQ.out, fun k => absurd HOK.out k, K9.out⟩
end Go.Proofs.Ythjelilmlbbalaa.Ad
namespace Go.Proofs.Ythjelilmlbbalaa.Ro
open Go.RowKit Go.Proofs.Ythjelilmlbbalaa.Vm Go.Proofs.Ythjelilmlbbalaa.Vo Go.Proofs.Ythjelilmlbbalaa.Bw Go.Proofs.Ythjelilmlbbalaa.Na Go.Proofs.Ythjelilmlbbalaa.Ko Go.Proofs.Ythjelilmlbbalaa.Ts Go.Proofs.Ythjelilmlbbalaa.Rm Go.Proofs.Ythjelilmlbbalaa.Rv Go.Proofs.Ythjelilmlbbalaa.Ra Go.Proofs.Ythjelilmlbbalaa.Re Go.Proofs.Ythjelilmlbbalaa.Rf Go.Proofs.Ythjelilmlbbalaa.Rk Go.Proofs.Ythjelilmlbbalaa.Rn

theorem emA_stop : ∀ {ts : List T} {j : Nat} {u : T}, ts[j]? = some u → emQ u = false → emA ts = false
  | [], j, u, h, _ => by simp at h
  | t :: ts, 0, u, h, k => by
    obtain rfl : t = u := by simpa using h
    rw [emA, k]; rfl
  | t :: ts, j + 1, u, h, k => by rw [emA, emA_stop (by simpa using h) k, Bool.and_false]
theorem emO_stop : ∀ {ts : List T} {j : Nat} {u : T}, ts[j]? = some u → emQ u = true → emO ts = true
  | [], j, u, h, _ => by simp at h
  | t :: ts, 0, u, h, k => by
    obtain rfl : t = u := by simpa using h
    rw [emO, k]; rfl
  | t :: ts, j + 1, u, h, k => by rw [emO, emO_stop (by simpa using h) k, Bool.or_true]
theorem emA_all : ∀ {ts : List T}, (∀ (i : Nat) u, ts[i]? = some u → emQ u = true) → emA ts = true
  | [], _ => by rw [emA]
  | t :: ts, h => by rw [emA, h 0 t rfl, emA_all (fun i u hi => h (i + 1) u (by simpa using hi))]; rfl
theorem emO_all : ∀ {ts : List T}, (∀ (i : Nat) u, ts[i]? = some u → emQ u = false) → emO ts = false
  | [], _ => by rw [emO]
  | t :: ts, h => by rw [emO, h 0 t rfl, emO_all (fun i u hi => h (i + 1) u (by simpa using hi))]; rfl

end Go.Proofs.Ythjelilmlbbalaa.Ro
namespace Go.Proofs.Ythjelilmlbbalaa.Aj
open Go.RowKit Go.Proofs.Ythjelilmlbbalaa.Vm Go.Proofs.Ythjelilmlbbalaa.Vo Go.Proofs.Ythjelilmlbbalaa.Bw Go.Proofs.Ythjelilmlbbalaa.Na Go.Proofs.Ythjelilmlbbalaa.Ko Go.Proofs.Ythjelilmlbbalaa.Ts Go.Proofs.Ythjelilmlbbalaa.Rm Go.Proofs.Ythjelilmlbbalaa.Rv Go.Proofs.Ythjelilmlbbalaa.Ra Go.Proofs.Ythjelilmlbbalaa.Re Go.Proofs.Ythjelilmlbbalaa.Rf Go.Proofs.Ythjelilmlbbalaa.Rk Go.Proofs.Ythjelilmlbbalaa.Rn Go.Proofs.Ythjelilmlbbalaa.Ro Go.Proofs.Ythjelilmlbbalaa.Ap

theorem ok_mem : ∀ {l : List T} {u : T}, okTs l → u ∈ l → okT u
  | [], _, _, hu => absurd hu (by simp)
  | t :: l, u, h, hu => by
    unfold okTs at h
    rcases List.mem_cons.1 hu with rfl | hu
    · exact h.1
    · exact ok_mem h.2 hu
theorem ok_kid {t u : T} (h : okT t) (hu : u ∈ kidsT t) : okT u := by
  cases t with
  | set a => exact absurd hu (by simp [kidsT])
  | emp => exact absurd hu (by simp [kidsT])
  | cat l => unfold okT at h; exact ok_mem h.2 hu
  | alt l => unfold okT at h; exact ok_mem h.2 hu
  | star t => unfold okT at h; obtain rfl : u = t := by simpa [kidsT] using hu
              exact h
  | plus t => unfold okT at h; obtain rfl : u = t := by simpa [kidsT] using hu
              exact h
  | opt t => unfold okT at h; obtain rfl : u = t := by simpa [kidsT] using hu
             exact h
  | rep lo hi t => unfold okT at h; obtain rfl : u = t := by simpa [kidsT] using hu
                   exact h.2.2
theorem szS_snoc {ts : List T} {j : Nat} {u : T} (h : ts[j]? = some u) : szS (ts.take (j + 1)) = szS (ts.take j) + szQ u := by
  rw [List.take_add_one, h]
  have key : ∀ a : List T, szS (a ++ [u]) = szS a + szQ u := by
    intro a
    induction a with
    | nil => simp [szS]
    | cons x a ih => simp only [List.cons_append, szS, ih]; omega
  exact key _
theorem wtS_snoc {ts : List T} {j : Nat} {u : T} (h : ts[j]? = some u) : wtS (ts.take (j + 1)) = wtS (ts.take j) + wtQ u := by
  rw [List.take_add_one, h]
  have key : ∀ a : List T, wtS (a ++ [u]) = wtS a + wtQ u := by
    intro a
    induction a with
    | nil => simp [wtS]
    | cons x a ih => simp only [List.cons_append, wtS, ih]; omega
  exact key _
theorem szS_le : ∀ ts : List T, szS ts ≤ 1000000 * ts.length
  | [] => by simp [szS]
  | t :: ts => by have h1 := szQ_le t; have h2 := szS_le ts; simp only [szS, List.length_cons]; omega
theorem wtS_le : ∀ ts : List T, wtS ts ≤ 100000 * ts.length
  | [] => by simp [wtS]
  | t :: ts => by have h1 := wtQ_le t; have h2 := wtS_le ts; simp only [wtS, List.length_cons]; omega

set_option maxHeartbeats 4000000 in
set_option maxRecDepth 100000 in
theorem rsize_all {A : Option Addr} {cap : Nat} {l : List Nd} (hl : l.length ≤ 500) : ∀ (m : Nat) (t : T), (enc t).length ≤ m → okT t → ∀ (p : Nat) (w : World), nds w A l → tat l p t →
    Calls Try.prog 33 #[.slice A l.length cap, .int .i64 (p : Int)] w fun e w' => e = .returned (.int .i64 (szQ t : Int)) ∧ Below w.heap.size w w' := by
  intro m
  induction m with
  | zero => intro t hm; exact absurd hm (by have := enc_pos t; omega)
  | succ m ih =>
  intro t hm hok p w h ht
  have H := Lib.hid h
  have HOK := Lib.hid hok
  have hle := ht.le
  have hkl : (kidsT t).length ≤ 500 := by
    have h1 := encs_le (kidsT t)
    have h2 := congrArg List.length (enc_hd t)
    rw [List.length_cons] at h2
    omega
  have HKB := Lib.hid hkl
  have HK := Lib.hid (rKids_any (cap := cap) (by omega) ht.node (hd_n t) (by omega) H)
  have HKid : Hid (∀ (j : Nat) u, (kidsT t)[j]? = some u → ∃ q : Nat, (kidsM l (kidsT t).length ((p : Int) + 1))[j]? = some (q : Int) ∧ ∀ w, nds w A l → Calls Try.prog 33 #[.slice A l.length cap, .int .i64 (q : Int)] w fun e w' => e = .returned (.int .i64 (szQ u : Int)) ∧ Below w.heap.size w w') := Lib.hid (fun j u hu => by
    obtain ⟨q, hq, hqt⟩ := ht.kid hu
    exact ⟨q, hq, fun w hw => ih u (by have := kid_less (List.mem_of_getElem? hu); omega) (ok_kid hok (List.mem_of_getElem? hu)) q w hw hqt⟩)
  obtain ⟨b, off, rfl, hb, hp⟩ := h _ _ ht.node
  have HC0 := Lib.hid hp.c0
  have HC6 := Lib.hid hp.c6
  have HC7 := Lib.hid hp.c7
  have HBB := Lib.hid hb
  have hpN : (p : Int) < (l.length : Int) := by have := enc_pos t; omega
  have hp0 : (0 : Int) ≤ (p : Int) := by omega
  obtain ⟨ts, hts⟩ : ∃ ts, ts = kidsT t := ⟨_, rfl⟩
  have HTS := Lib.hid hts
  rw [← hts] at HK HKid hkl HKB
  clear h ht hle hkl hp hb ih hm hok hts
  obtain ⟨N, hN⟩ : ∃ N, N = l.length := ⟨_, rfl⟩
  rw [← hN] at HK HKid hpN hl
  rw [← hN]
  clear hN
  obtain ⟨K, hK⟩ : ∃ K, K = ts.length := ⟨_, rfl⟩
  have HKK := Lib.hid hK
  rw [← hK] at HK HKid HKB
  have hKb := HKB.out
  have HSL : Hid (∀ j, szS (ts.take j) ≤ 1000000 * 500) := Lib.hid (fun j => by have h1 := szS_le (ts.take j); have h2 := HKB.out; rw [List.length_take] at h1; omega)
  obtain ⟨KK, hKK⟩ : ∃ KK, KK = kidsM l K ((p : Int) + 1) := ⟨_, rfl⟩
  have HKL : Hid (KK.length = K) := Lib.hid (by rw [hKK, kidsM_length])
  rw [← hKK] at HK HKid
  clear hK hKK
  go_enter Try.func33, Try.ntmps33
  go_wp2_with (go_at_call 44; refine HK.out.mono ?_; rintro e w1 ⟨v1, rfl, i1, k1⟩; obtain ⟨A5, c5, hv1⟩ := i1.form; rw [HKL.out] at hv1; subst hv1; have I1 := Lib.hid i1; have K1 := Lib.hid k1; clear i1 k1)
  go_loopw [6, 7] (fun s6 s7 wr => ∃ j S : Nat, s6 = .int .i64 (S : Int) ∧ s7 = .int .i64 (j : Int) ∧ j ≤ K ∧ S ≤ 1000000 * 500 + 1 ∧ Hid (S = szS (ts.take j)) ∧ Hid (Below w1.heap.size w1 wr)) (fun _ s7 _ => K - (intOf s7).toNat)
  case atStart => exact ⟨0, 0, rfl, rfl, by omega, by omega, Lib.hid (by simp [szS]), Lib.hid (Below.refl _ _)⟩
  case round =>
    obtain ⟨j, S, rfl, rfl, hj, hS, HS, HB⟩ := hrel
    by_cases hjn : j < K
    · obtain ⟨u, hu⟩ : ∃ u, ts[j]? = some u := ⟨_, List.getElem?_eq_getElem (by rw [← HKK.out]; exact hjn)⟩
      obtain ⟨q, hq, hcall⟩ := HKid.out j u hu
      obtain ⟨g5, o5, rfl, _, hc5⟩ := (ints.row (I1.out.below HB.out)) j (by rw [HKL.out]; exact hjn)
      have hat : at' KK j = (q : Int) := by
        have h1 := at_get (l := KK) (i := j) (by rw [HKL.out]; exact hjn)
        rw [hq] at h1
        exact (Option.some.inj h1).symm
      rw [hat] at hc5
      have HC := Lib.hid (hcall wr ((H.out.below K1.out).below HB.out))
      have hjn' : (j : Int) < (K : Int) := by omega
      have hj0 : (0 : Int) ≤ (j : Int) := by omega
      have HJN := Lib.hid hjn
      have HNX : Hid (S + szQ u = szS (ts.take (j + 1))) := Lib.hid (by have h1 := szS_snoc hu; have h2 := HS.out; omega)
      have HNB : Hid (S + szQ u ≤ 1000000 * 500 + 1) := Lib.hid (by have h1 := HSL.out (j + 1); have h2 := HNX.out; omega)
      obtain ⟨z, hz⟩ : ∃ z, z = szQ u := ⟨_, rfl⟩
      have hzb : z ≤ 1000000 := by rw [hz]; exact szQ_le u
      rw [← hz] at HC HNX HNB
      clear hcall hq hat hjn hu hz
      go_wp2_with (go_at_call 33; refine HC.out.mono ?_; rintro e w9 ⟨rfl, k9⟩; have K9 := Lib.hid k9; clear k9)
      go_roundw
      case rel => exact ⟨j + 1, S + z, by go_num, by go_num, by have := HJN.out; omega, HNB.out, HNX, Lib.hid (grows HB.out K9.out)⟩
      case measure => have := HJN.out; simp [intOf]; omega
    · have hj' : ¬ (j : Int) < (K : Int) := by omega
      have HSS : Hid (S = szS (kidsT t)) := Lib.hid (by rw [HS.out, List.take_of_length_le (by rw [← HKK.out]; omega), HTS.out])
      have HBW := Lib.hid (grows K1.out HB.out)
      have d0 := (HBW.out.cell (p := ⟨b, off + p * 8, none⟩) HBB.out).trans HC0.out
      have d6 := (HBW.out.cell (p := ⟨b, off + p * 8 + 6, none⟩) HBB.out).trans HC6.out
      have d7 := (HBW.out.cell (p := ⟨b, off + p * 8 + 7, none⟩) HBB.out).trans HC7.out
      clear hjn hj
      cases t with
      | set a =>
        dsimp only [hd, kidsT] at d0 d6 d7 HSS
        go_wp2
        all_goals go_ret
        all_goals exact ⟨ret_i64 (by unfold szQ; first | rfl | omega | decide), HBW.out⟩
      | emp =>
        dsimp only [hd, kidsT] at d0 d6 d7 HSS
        go_wp2
        all_goals go_ret
        all_goals exact ⟨ret_i64 (by unfold szQ; first | rfl | omega | decide), HBW.out⟩
      | cat l =>
        dsimp only [hd, kidsT] at d0 d6 d7 HSS
        go_wp2
        all_goals go_ret
        all_goals exact ⟨ret_i64 (by have := HSS.out; unfold szQ; omega), HBW.out⟩
      | alt l =>
        dsimp only [hd, kidsT] at d0 d6 d7 HSS
        go_wp2
        all_goals go_ret
        all_goals exact ⟨ret_i64 (by have := HSS.out; unfold szQ; omega), HBW.out⟩
      | star u =>
        dsimp only [hd, kidsT] at d0 d6 d7 HSS
        go_wp2
        all_goals go_ret
        all_goals exact ⟨ret_i64 (by have := HSS.out; simp only [szS] at this; unfold szQ; omega), HBW.out⟩
      | plus u =>
        dsimp only [hd, kidsT] at d0 d6 d7 HSS
        go_wp2
        all_goals go_ret
        all_goals exact ⟨ret_i64 (by have := HSS.out; simp only [szS] at this; unfold szQ; omega), HBW.out⟩
      | opt u =>
        dsimp only [hd, kidsT] at d0 d6 d7 HSS
        go_wp2
        all_goals go_ret
        all_goals exact ⟨ret_i64 (by have := HSS.out; simp only [szS] at this; unfold szQ; omega), HBW.out⟩
      | rep lo hi u =>
        dsimp only [hd, kidsT] at d0 d6 d7 HSS
        have hok := HOK.out
        unfold okT at hok
        obtain ⟨hlo, hhi, _⟩ := hok
        rcases hhi with rfl | ⟨h1, h2⟩
        · by_cases hl1 : lo ≤ 1
          · have hmx : max (lo : Int) 1 = 1 := by omega
            have hHS : Hid ((szQ (.rep lo (-1) u) : Int) = min (2 + (S : Int)) 1000000) := Lib.hid (by have := HSS.out; simp only [szS] at this; unfold szQ; rw [if_pos (by decide), show max lo 1 = 1 by omega]; omega)
            obtain ⟨Z, hZ⟩ : ∃ Z, Z = (szQ (.rep lo (-1) u) : Int) := ⟨_, rfl⟩
            rw [← hZ] at hHS
            have HZ := Lib.hid hZ
            clear hZ
            go_wp2
            all_goals go_ret
            all_goals exact ⟨ret_i64 (by rw [← HZ.out, hHS.out]), HBW.out⟩
          · have hmx : max (lo : Int) 1 = (lo : Int) := by omega
            obtain ⟨z, hz⟩ : ∃ z, z = lo * S := ⟨_, rfl⟩
            have hzb : z ≤ 30 * (1000000 * 500 + 1) := by rw [hz]; exact Nat.mul_le_mul hlo hS
            have hzi : (lo : Int) * (S : Int) = (z : Int) := by rw [hz]; push_cast; rfl
            have hHS : Hid ((szQ (.rep lo (-1) u) : Int) = min (2 + (z : Int)) 1000000) := Lib.hid (by have := HSS.out; simp only [szS, Nat.add_zero] at this; unfold szQ; rw [if_pos (by decide), show max lo 1 = lo by omega, ← this, ← hz]; omega)
            have HZ := hHS
            clear hz
            go_wp2
            all_goals go_ret
            all_goals exact ⟨ret_i64 (by first | (rw [HZ.out]; done) | (have hzz := HZ.out; omega)), HBW.out⟩
        · obtain ⟨h, rfl⟩ := Int.eq_ofNat_of_zero_le (show 0 ≤ hi by omega)
          have hh : ¬ (h : Int) < 0 := by omega
          obtain ⟨z, hz⟩ : ∃ z, z = h * S := ⟨_, rfl⟩
          have hzb : z ≤ 30 * (1000000 * 500 + 1) := by rw [hz]; exact Nat.mul_le_mul (by omega) hS
          have hzi : (h : Int) * (S : Int) = (z : Int) := by rw [hz]; push_cast; rfl
          have HZ : Hid ((szQ (.rep lo (h : Int) u) : Int) = min (2 + (z : Int)) 1000000) := Lib.hid (by have := HSS.out; simp only [szS, Nat.add_zero] at this; unfold szQ; rw [if_neg (by omega), Int.toNat_natCast, ← this, ← hz]; omega)
          clear hz
          go_wp2
          all_goals go_ret
          all_goals exact ⟨ret_i64 (by first | (rw [HZ.out]; done) | (have hzz := HZ.out; omega)), HBW.out⟩
set_option maxHeartbeats 4000000 in
set_option maxRecDepth 100000 in
theorem rWeight_all {A : Option Addr} {cap : Nat} {l : List Nd} (hl : l.length ≤ 500) : ∀ (m : Nat) (t : T), (enc t).length ≤ m → okT t → ∀ (p : Nat) (w : World), nds w A l → tat l p t →
    Calls Try.prog 25 #[.slice A l.length cap, .int .i64 (p : Int)] w fun e w' => e = .returned (.int .i64 (wtQ t : Int)) ∧ Below w.heap.size w w' := by
  intro m
  induction m with
  | zero => intro t hm; exact absurd hm (by have := enc_pos t; omega)
  | succ m ih =>
  intro t hm hok p w h ht
  have H := Lib.hid h
  have HOK := Lib.hid hok
  have hle := ht.le
  have hkl : (kidsT t).length ≤ 500 := by
    have h1 := encs_le (kidsT t)
    have h2 := congrArg List.length (enc_hd t)
    rw [List.length_cons] at h2
    omega
  have HKB := Lib.hid hkl
  have HK := Lib.hid (rKids_any (cap := cap) (by omega) ht.node (hd_n t) (by omega) H)
  have HKid : Hid (∀ (j : Nat) u, (kidsT t)[j]? = some u → ∃ q : Nat, (kidsM l (kidsT t).length ((p : Int) + 1))[j]? = some (q : Int) ∧ ∀ w, nds w A l → Calls Try.prog 25 #[.slice A l.length cap, .int .i64 (q : Int)] w fun e w' => e = .returned (.int .i64 (wtQ u : Int)) ∧ Below w.heap.size w w') := Lib.hid (fun j u hu => by
    obtain ⟨q, hq, hqt⟩ := ht.kid hu
    exact ⟨q, hq, fun w hw => ih u (by have := kid_less (List.mem_of_getElem? hu); omega) (ok_kid hok (List.mem_of_getElem? hu)) q w hw hqt⟩)
  obtain ⟨b, off, rfl, hb, hp⟩ := h _ _ ht.node
  have HC0 := Lib.hid hp.c0
  have HC6 := Lib.hid hp.c6
  have HC7 := Lib.hid hp.c7
  have HBB := Lib.hid hb
  have hpN : (p : Int) < (l.length : Int) := by have := enc_pos t; omega
  have hp0 : (0 : Int) ≤ (p : Int) := by omega
  obtain ⟨ts, hts⟩ : ∃ ts, ts = kidsT t := ⟨_, rfl⟩
  have HTS := Lib.hid hts
  rw [← hts] at HK HKid hkl HKB
  clear h ht hle hkl hp hb ih hm hok hts
  obtain ⟨N, hN⟩ : ∃ N, N = l.length := ⟨_, rfl⟩
  rw [← hN] at HK HKid hpN hl
  rw [← hN]
  clear hN
  obtain ⟨K, hK⟩ : ∃ K, K = ts.length := ⟨_, rfl⟩
  have HKK := Lib.hid hK
  rw [← hK] at HK HKid HKB
  have hKb := HKB.out
  have HSL : Hid (∀ j, wtS (ts.take j) ≤ 100000 * 500) := Lib.hid (fun j => by have h1 := wtS_le (ts.take j); have h2 := HKB.out; rw [List.length_take] at h1; omega)
  obtain ⟨KK, hKK⟩ : ∃ KK, KK = kidsM l K ((p : Int) + 1) := ⟨_, rfl⟩
  have HKL : Hid (KK.length = K) := Lib.hid (by rw [hKK, kidsM_length])
  rw [← hKK] at HK HKid
  clear hK hKK
  go_enter Try.func25, Try.ntmps25
  go_wp2_with (go_at_call 44; refine HK.out.mono ?_; rintro e w1 ⟨v1, rfl, i1, k1⟩; obtain ⟨A5, c5, hv1⟩ := i1.form; rw [HKL.out] at hv1; subst hv1; have I1 := Lib.hid i1; have K1 := Lib.hid k1; clear i1 k1)
  go_loopw [6, 7] (fun s6 s7 wr => ∃ j S : Nat, s6 = .int .i64 (S : Int) ∧ s7 = .int .i64 (j : Int) ∧ j ≤ K ∧ S ≤ 100000 * 500 + 1 ∧ Hid (S = 1 + wtS (ts.take j)) ∧ Hid (Below w1.heap.size w1 wr)) (fun _ s7 _ => K - (intOf s7).toNat)
  case atStart => exact ⟨0, 1, rfl, rfl, by omega, by omega, Lib.hid (by simp [wtS]), Lib.hid (Below.refl _ _)⟩
  case round =>
    obtain ⟨j, S, rfl, rfl, hj, hS, HS, HB⟩ := hrel
    by_cases hjn : j < K
    · obtain ⟨u, hu⟩ : ∃ u, ts[j]? = some u := ⟨_, List.getElem?_eq_getElem (by rw [← HKK.out]; exact hjn)⟩
      obtain ⟨q, hq, hcall⟩ := HKid.out j u hu
      obtain ⟨g5, o5, rfl, _, hc5⟩ := (ints.row (I1.out.below HB.out)) j (by rw [HKL.out]; exact hjn)
      have hat : at' KK j = (q : Int) := by
        have h1 := at_get (l := KK) (i := j) (by rw [HKL.out]; exact hjn)
        rw [hq] at h1
        exact (Option.some.inj h1).symm
      rw [hat] at hc5
      have HC := Lib.hid (hcall wr ((H.out.below K1.out).below HB.out))
      have hjn' : (j : Int) < (K : Int) := by omega
      have hj0 : (0 : Int) ≤ (j : Int) := by omega
      have HJN := Lib.hid hjn
      have HNX : Hid (S + wtQ u = 1 + wtS (ts.take (j + 1))) := Lib.hid (by have h1 := wtS_snoc hu; have h2 := HS.out; omega)
      have HNB : Hid (S + wtQ u ≤ 100000 * 500 + 1) := Lib.hid (by have h1 := HSL.out (j + 1); have h2 := HNX.out; omega)
      obtain ⟨z, hz⟩ : ∃ z, z = wtQ u := ⟨_, rfl⟩
      have hzb : z ≤ 100000 := by rw [hz]; exact wtQ_le u
      rw [← hz] at HC HNX HNB
      clear hcall hq hat hjn hu hz
      go_wp2_with (go_at_call 25; refine HC.out.mono ?_; rintro e w9 ⟨rfl, k9⟩; have K9 := Lib.hid k9; clear k9)
      go_roundw
      case rel => exact ⟨j + 1, S + z, by go_num, by go_num, by have := HJN.out; omega, HNB.out, HNX, Lib.hid (grows HB.out K9.out)⟩
      case measure => have := HJN.out; simp [intOf]; omega
    · have hj' : ¬ (j : Int) < (K : Int) := by omega
      have HSS : Hid (S = 1 + wtS (kidsT t)) := Lib.hid (by rw [HS.out, List.take_of_length_le (by rw [← HKK.out]; omega), HTS.out])
      have HBW := Lib.hid (grows K1.out HB.out)
      have d0 := (HBW.out.cell (p := ⟨b, off + p * 8, none⟩) HBB.out).trans HC0.out
      have d6 := (HBW.out.cell (p := ⟨b, off + p * 8 + 6, none⟩) HBB.out).trans HC6.out
      have d7 := (HBW.out.cell (p := ⟨b, off + p * 8 + 7, none⟩) HBB.out).trans HC7.out
      clear hjn hj
      cases t with
      | set a =>
        dsimp only [hd, kidsT] at d0 d6 d7 HSS
        go_wp2
        all_goals go_ret
        all_goals exact ⟨ret_i64 (by have := HSS.out; simp only [wtS] at this; simp [wtQ]; omega), HBW.out⟩
      | emp =>
        dsimp only [hd, kidsT] at d0 d6 d7 HSS
        go_wp2
        all_goals go_ret
        all_goals exact ⟨ret_i64 (by have := HSS.out; simp only [wtS] at this; simp [wtQ]; omega), HBW.out⟩
      | cat l =>
        dsimp only [hd, kidsT] at d0 d6 d7 HSS
        go_wp2
        all_goals go_ret
        all_goals exact ⟨ret_i64 (by have := HSS.out; unfold wtQ; omega), HBW.out⟩
      | alt l =>
        dsimp only [hd, kidsT] at d0 d6 d7 HSS
        go_wp2
        all_goals go_ret
        all_goals exact ⟨ret_i64 (by have := HSS.out; unfold wtQ; omega), HBW.out⟩
      | star u =>
        dsimp only [hd, kidsT] at d0 d6 d7 HSS
        go_wp2
        all_goals go_ret
        all_goals exact ⟨ret_i64 (by have := HSS.out; simp only [wtS] at this; unfold wtQ; omega), HBW.out⟩
      | plus u =>
        dsimp only [hd, kidsT] at d0 d6 d7 HSS
        go_wp2
        all_goals go_ret
        all_goals exact ⟨ret_i64 (by have := HSS.out; simp only [wtS] at this; unfold wtQ; omega), HBW.out⟩
      | opt u =>
        dsimp only [hd, kidsT] at d0 d6 d7 HSS
        go_wp2
        all_goals go_ret
        all_goals exact ⟨ret_i64 (by have := HSS.out; simp only [wtS] at this; unfold wtQ; omega), HBW.out⟩
      | rep lo hi u =>
        dsimp only [hd, kidsT] at d0 d6 d7 HSS
        have hok := HOK.out
        unfold okT at hok
        obtain ⟨hlo, hhi, _⟩ := hok
        obtain ⟨y, hy⟩ : ∃ y : Nat, (y : Int) = max (lo : Int) hi := ⟨(max (lo : Int) hi).toNat, by omega⟩
        have hyb : y ≤ 30 := by omega
        obtain ⟨z, hz⟩ : ∃ z, z = S * (1 + y) := ⟨_, rfl⟩
        have hzb : z ≤ (100000 * 500 + 1) * 31 := by rw [hz]; exact Nat.mul_le_mul hS (by omega)
        have hzi : (S : Int) * (1 + (y : Int)) = (z : Int) := by rw [hz]; push_cast; rfl
        have HZ : Hid ((wtQ (.rep lo hi u) : Int) = min (z : Int) 100000) := Lib.hid (by have := HSS.out; simp only [wtS, Nat.add_zero] at this; unfold wtQ; rw [← hy, Int.toNat_natCast, ← this, ← hz]; omega)
        clear hz
        by_cases hmx : (lo : Int) ≤ hi
        · have hyi : (y : Int) = hi := by omega
          rw [hyi] at hzi
          have hmm : max (lo : Int) hi = hi := by omega
          clear hy hyi
          go_wp2
          go_quiet (fail)
          go_wp2
          all_goals go_ret
          all_goals exact ⟨ret_i64 (by first | (rw [HZ.out]; done) | (have hzz := HZ.out; omega)), grows HBW.out (below_draws _ _)⟩
        · have hyi : (y : Int) = (lo : Int) := by omega
          rw [hyi] at hzi
          have hmm : max (lo : Int) hi = (lo : Int) := by omega
          clear hy hyi
          go_wp2
          go_quiet (fail)
          go_wp2
          all_goals go_ret
          all_goals exact ⟨ret_i64 (by first | (rw [HZ.out]; done) | (have hzz := HZ.out; omega)), grows HBW.out (below_draws _ _)⟩
end Go.Proofs.Ythjelilmlbbalaa.Aj
namespace Go.Proofs.Ythjelilmlbbalaa.Ee
open Go.RowKit Go.Proofs.Ythjelilmlbbalaa.Vm Go.Proofs.Ythjelilmlbbalaa.Vo Go.Proofs.Ythjelilmlbbalaa.Bw Go.Proofs.Ythjelilmlbbalaa.Na Go.Proofs.Ythjelilmlbbalaa.Ko Go.Proofs.Ythjelilmlbbalaa.Tm Go.Proofs.Ythjelilmlbbalaa.Ta Go.Proofs.Ythjelilmlbbalaa.Tb Go.Proofs.Ythjelilmlbbalaa.Tf Go.Proofs.Ythjelilmlbbalaa.Rm Go.Proofs.Ythjelilmlbbalaa.Rv Go.Proofs.Ythjelilmlbbalaa.Ra Go.Proofs.Ythjelilmlbbalaa.Re Go.Proofs.Ythjelilmlbbalaa.Rk Go.Proofs.Ythjelilmlbbalaa.Rn Go.Proofs.Ythjelilmlbbalaa.Eb Go.Proofs.Ythjelilmlbbalaa.Ed

theorem made_sn (n : Nat) (hn : n ≤ 1000000) (u : World) : (Instr.makeSlice 22 (.int .i64 0) (.int .i64 (n : Int))).run Try.prog u = .ok (.slice (some ⟨u.heap.size, 0, none⟩) 0 n) (u.alloc (.cells (madeCells #[.slice none 0 0] n) 35)) := by
  obtain ⟨i0, hi, hz0, hz1, hz2⟩ := info_parts infoSN
  have h := run_make (P := Try.prog) u 22 35 i0 (.slice none 0 0) Try.underlying22 hi hz0 .i64 .i64 0 (n : Int) (by omega) (by omega) (by rw [hz2]; omega) (by omega)
  rw [hz1] at h
  simpa [Value.cells] using h
theorem vs_made {w : World} {base n : Nat} {e : TypeId} {z : Value} (hn : n ≤ 1000000) (hb : base ≤ w.heap.size) : vs (w.alloc (.cells (madeCells #[z] n) e)) base e (.slice (some ⟨w.heap.size, 0, none⟩) 0 n) [] :=
  ⟨rfl, .inr ⟨w.heap.size, n, _, rfl, hb, heap_alloc_new w _, Nat.zero_le _, by unfold maxLen; omega, by rw [size_madeCells]; simp, rfl⟩⟩
/-- What children answers. -/
def kidV (w' : World) (L : List Value) (ts : List T) : Prop := L.length = ts.length ∧ ∀ (j : Nat) (u : T), ts[j]? = some u → ∃ x, L[j]? = some x ∧ sl w' x (enc u)

end Go.Proofs.Ythjelilmlbbalaa.Ee
namespace Go.Proofs.Ythjelilmlbbalaa.En
open Go.RowKit Go.Proofs.Ythjelilmlbbalaa.Vm Go.Proofs.Ythjelilmlbbalaa.Vo Go.Proofs.Ythjelilmlbbalaa.Bw Go.Proofs.Ythjelilmlbbalaa.Na Go.Proofs.Ythjelilmlbbalaa.Ko Go.Proofs.Ythjelilmlbbalaa.Tm Go.Proofs.Ythjelilmlbbalaa.Ts Go.Proofs.Ythjelilmlbbalaa.Ta Go.Proofs.Ythjelilmlbbalaa.Tb Go.Proofs.Ythjelilmlbbalaa.Tf Go.Proofs.Ythjelilmlbbalaa.Rm Go.Proofs.Ythjelilmlbbalaa.Rv Go.Proofs.Ythjelilmlbbalaa.Ra Go.Proofs.Ythjelilmlbbalaa.Re Go.Proofs.Ythjelilmlbbalaa.Rk Go.Proofs.Ythjelilmlbbalaa.Rn Go.Proofs.Ythjelilmlbbalaa.Ed Go.Proofs.Ythjelilmlbbalaa.Ee

/-- A node's cells. -/
def cN (x : Nd) : List Value := [.int .i64 x.k, .int .i64 x.n] ++ x.s.map (fun y => .int .u64 (y : Int)) ++ [.int .i64 x.lo, .int .i64 x.hi]
def Nc (l : List Nd) : List Value := l.flatMap cN
structure ndOk (x : Nd) : Prop where
  s : isSet x.s
  ik : in64 x.k
  ikn : in64 x.n
  il : in64 x.lo
  ih : in64 x.hi
theorem nd1.ok {w : World} {b j : Nat} {x : Nd} (h : nd1 w b j x) : ndOk x := ⟨h.s, h.ik, h.ikn, h.il, h.ih⟩
theorem nds_ok {w : World} {A : Option Addr} {l : List Nd} (h : nds w A l) : ∀ x ∈ l, ndOk x := fun x hx => by
  obtain ⟨i, hi⟩ := List.mem_iff_getElem?.1 hx
  obtain ⟨_, _, _, _, hp⟩ := h i x hi
  exact nd1.ok hp
theorem cN_four {x : Nd} (h : isSet x.s) : ∃ x0 x1 x2 x3 : Nat, x.s = [x0, x1, x2, x3] ∧ cN x = [.int .i64 x.k, .int .i64 x.n, .int .u64 (x0 : Int), .int .u64 (x1 : Int), .int .u64 (x2 : Int), .int .u64 (x3 : Int), .int .i64 x.lo, .int .i64 x.hi] := by
  obtain ⟨x0, x1, x2, x3, e⟩ := four_of h
  exact ⟨x0, x1, x2, x3, e, by unfold cN; rw [e]; rfl⟩
theorem cN_len {x : Nd} (h : isSet x.s) : (cN x).length = 8 := by
  obtain ⟨_, _, _, _, _, e⟩ := cN_four h
  rw [e]; rfl
theorem cN_one (x : Nd) : ∀ u ∈ cN x, u.oneCell' = true := by
  intro u hu
  unfold cN at hu
  simp only [List.mem_append, List.mem_cons, List.mem_map, List.not_mem_nil, or_false] at hu
  rcases hu with ((rfl | rfl) | ⟨y, _, rfl⟩) | (rfl | rfl) <;> rfl
theorem Nc_one (l : List Nd) : ∀ u ∈ Nc l, u.oneCell' = true := by
  intro u hu
  obtain ⟨x, _, h⟩ := List.mem_flatMap.1 hu
  exact cN_one x u h
theorem Nc_append (a b : List Nd) : Nc (a ++ b) = Nc a ++ Nc b := by simp [Nc]
theorem Nc_len : ∀ {l : List Nd}, (∀ x ∈ l, ndOk x) → (Nc l).length = l.length * 8
  | [], _ => rfl
  | x :: l, h => by
    have h1 := Nc_len (l := l) (fun y hy => h y (by simp [hy]))
    have h2 := cN_len (h x (by simp)).s
    show (cN x ++ Nc l).length = _
    rw [List.length_append, h1, h2, List.length_cons]; omega
theorem Nc_get : ∀ {l : List Nd}, (∀ x ∈ l, ndOk x) → ∀ {i : Nat} {x : Nd}, l[i]? = some x → ∀ {j : Nat} {v : Value}, (cN x)[j]? = some v → (Nc l)[i * 8 + j]? = some v
  | [], _, _, _, h, _, _, _ => by simp at h
  | y :: l, ho, 0, x, h, j, v, hv => by
    simp at h
    subst h
    have e : Nc (y :: l) = cN y ++ Nc l := rfl
    rw [e, Nat.zero_mul, Nat.zero_add, List.getElem?_append_left (List.getElem?_eq_some_iff.1 hv).1]
    exact hv
  | y :: l, ho, i + 1, x, h, j, v, hv => by
    rw [List.getElem?_cons_succ] at h
    have e : Nc (y :: l) = cN y ++ Nc l := rfl
    have h8 := cN_len (ho y (by simp)).s
    rw [e, List.getElem?_append_right (by omega), h8]
    have e2 : (i + 1) * 8 + j - 8 = i * 8 + j := by omega
    rw [e2]
    exact Nc_get (fun z hz => ho z (by simp [hz])) h hv
/-- A cell of a list of nodes that is read. -/
theorem nds_cell {w : World} {b off : Nat} : ∀ {l : List Nd}, nds w (some ⟨b, off, none⟩) l → ∀ (j : Nat) (u : Value), (Nc l)[j]? = some u → w.cell? ((⟨b, off, none⟩ : Addr).add j) = some u := by
  intro l h j u hu
  have ho := nds_ok h
  have hj : j < l.length * 8 := by rw [← Nc_len ho]; exact (List.getElem?_eq_some_iff.1 hu).1
  obtain ⟨x, hx⟩ : ∃ x, l[j / 8]? = some x := ⟨_, List.getElem?_eq_getElem (by omega)⟩
  obtain ⟨b', off', e0, _, hp⟩ := h _ x hx
  injection e0 with e0
  injection e0 with e1 e2 _
  subst e1; subst e2
  obtain ⟨x0, x1, x2, x3, hs, e⟩ := cN_four hp.s
  have hv : (cN x)[j % 8]? = some u := by
    obtain ⟨v, hv⟩ : ∃ v, (cN x)[j % 8]? = some v := ⟨_, List.getElem?_eq_getElem (by rw [cN_len hp.s]; omega)⟩
    have := Nc_get ho hx hv
    rw [show j / 8 * 8 + j % 8 = j by omega, hu] at this
    rw [hv, this]
  have ea : (⟨b, off, none⟩ : Addr).add j = ⟨b, off + j / 8 * 8 + j % 8, none⟩ := by
    have : off + j = off + j / 8 * 8 + j % 8 := by omega
    unfold Addr.add; split <;> simp_all
  rw [ea]
  have hlt : j % 8 < 8 := Nat.mod_lt _ (by decide)
  rw [e] at hv
  generalize j % 8 = r at *
  have p2 := hp.cs 0 x0 (by rw [hs]; rfl)
  have p3 := hp.cs 1 x1 (by rw [hs]; rfl)
  have p4 := hp.cs 2 x2 (by rw [hs]; rfl)
  have p5 := hp.cs 3 x3 (by rw [hs]; rfl)
  match r, hlt, hv with
  | 0, _, hv => rw [← hv]; exact hp.c0
  | 1, _, hv => rw [← hv]; exact hp.c1
  | 2, _, hv => rw [← hv]; exact p2
  | 3, _, hv => rw [← hv]; exact p3
  | 4, _, hv => rw [← hv]; exact p4
  | 5, _, hv => rw [← hv]; exact p5
  | 6, _, hv => rw [← hv]; exact hp.c6
  | 7, _, hv => rw [← hv]; exact hp.c7
/-- A row of nodes of the call's own. -/
def nw (w : World) (base : Nat) (v : Value) (l : List Nd) : Prop := w.ownsRow base 79 8 v l.length (Nc l)
section
variable {w w' : World} {base : Nat} {v : Value} {l : List Nd}
theorem nw.lo (h : nw w base v l) : ∀ i, v.ownBlock = some i → base ≤ i ∧ i < w.heap.size := fun i hi => World.ownsRow.lt h i hi
theorem nw.le (h : nw w base v l) : ∃ A cap, v = .slice A l.length cap ∧ l.length ≤ cap := by
  rcases h.2 with ⟨rfl, h0⟩ | ⟨g, cap, _, rfl, _, _, hc, _⟩
  · exact ⟨none, 0, by rw [h0], by omega⟩
  · exact ⟨_, cap, rfl, hc⟩
/-- It is read. -/
theorem nw.read (h : nw w base v l) (ho : ∀ x ∈ l, ndOk x) : sl w v l := by
  rcases h.2 with ⟨rfl, h0⟩ | ⟨g, cap, _, rfl, _, _, hc, _⟩
  · have e0 : l.length = 0 := by first | exact h0 | (rw [h0]; rfl)
    obtain rfl := List.eq_nil_of_length_eq_zero e0
    exact ⟨none, 0, rfl, Nat.le_refl _, nds_nil _ _⟩
  · refine ⟨_, cap, rfl, hc, fun i x hx => ?_⟩
    have hg := (World.ownsRow.lt h g rfl).2
    have cc := World.ownsRow.cells (g := g) h rfl
    have hxo := ho x (List.mem_of_getElem? hx)
    have cg : ∀ j v, (cN x)[j]? = some v → w.cell? ⟨g, 0 + i * 8 + j, none⟩ = some v := fun j v hv => by
      have := cc _ _ (Nc_get ho hx hv)
      rw [show (⟨g, 0, none⟩ : Addr).add (i * 8 + j) = ⟨g, 0 + i * 8 + j, none⟩ by unfold Addr.add; split <;> simp_all] at this
      exact this
    obtain ⟨x0, x1, x2, x3, hs, e⟩ := cN_four hxo.s
    rw [e] at cg
    refine ⟨g, 0, rfl, hg, hxo.s, hxo.ik, hxo.ikn, hxo.il, hxo.ih, cg 0 _ rfl, cg 1 _ rfl, fun q y hq => ?_, cg 6 _ rfl, cg 7 _ rfl⟩
    rw [hs] at hq
    have hq4 : q < 4 := (List.getElem?_eq_some_iff.1 hq).1
    match q, hq4, hq with
    | 0, _, hq => obtain rfl : x0 = y := by simpa using hq
                  exact cg 2 _ rfl
    | 1, _, hq => obtain rfl : x1 = y := by simpa using hq
                  exact cg 3 _ rfl
    | 2, _, hq => obtain rfl : x2 = y := by simpa using hq
                  exact cg 4 _ rfl
    | 3, _, hq => obtain rfl : x3 = y := by simpa using hq
                  exact cg 5 _ rfl
end
theorem infoNd : (Try.prog.info? 79).map (fun i => (i.zero, i.size, i.bytes)) = some (some (.agg #[.int .i64 0, .int .i64 0, .int .u64 0, .int .u64 0, .int .u64 0, .int .u64 0, .int .i64 0, .int .i64 0]), 8, 64) := by kernel_rfl
end Go.Proofs.Ythjelilmlbbalaa.En
