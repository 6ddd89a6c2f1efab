/-
  The reference's Kids: the places of a node's children, in a row of the call's own.
  Trees at places of a list of nodes: where each child stands.
  Rows of values of one cell that a call makes (slices of slices, slices of strings); slices of nodes as values.
  The reference's Empty: which trees match the empty text.
  The program's children: the trees below a tree's first node.
  Rows of nodes that a call makes; the program's above, one and join.
  The program's Empty: which trees match the empty text.
  The program's empty and Empty.
  The program's Empty.
  The program's escape.
  Conditions: as each theorem says.
-/
import Derived.Test.YtabcehifdomolaaDoorQal
import Derived.Test.YtabcehifdomolaaDoorQam
import Derived.Deep.LoopGhost
import Derived.Test.YtabcehifdomolaaDoorQaf
import Derived.Maps.AppendAt
import Derived.Deep.RegionHeld3
namespace Go.Proofs.YtabcehifdomolaaDoor.Rk
open Go.RowKit Go.Proofs.YtabcehifdomolaaDoor.Vm Go.Proofs.YtabcehifdomolaaDoor.Vo Go.Proofs.YtabcehifdomolaaDoor.Bw Go.Proofs.YtabcehifdomolaaDoor.Na Go.Proofs.YtabcehifdomolaaDoor.Ko Go.Proofs.YtabcehifdomolaaDoor.Rm Go.Proofs.YtabcehifdomolaaDoor.Rv Go.Proofs.YtabcehifdomolaaDoor.Ra Go.Proofs.YtabcehifdomolaaDoor.Re

theorem infoI : (Tryd.prog.info? 3).map (fun i => (i.zero, i.size, i.bytes)) = some (some (.int .i64 0), 1, 8) := by kernel_rfl
/-- Places one behind the other, each where the tree ahead of it ends. -/
def kidsM (l : List Nd) : Nat → Int → List Int
  | 0, _ => []
  | c + 1, a => a :: kidsM l c (endI l a)
theorem kidsM_length (l : List Nd) : ∀ c a, (kidsM l c a).length = c
  | 0, _ => rfl
  | c + 1, a => by rw [kidsM, List.length_cons, kidsM_length l c]
theorem endW_le {N : Nat} : ∀ {l : List Nd} {w m : Nat}, endW N l w = some m → m ≤ l.length
  | [], w, m, h => by cases h
  | x :: l, w, m, h => by
    rw [endW] at h
    split at h
    · cases h
    · split at h
      · obtain rfl := Option.some.inj h; simp
      · cases e : endW N l (w - 1 + x.n.toNat) with
        | none => rw [e] at h; cases h
        | some q =>
          rw [e] at h
          have h' : q + 1 = m := Option.some.inj h
          have := endW_le e
          rw [List.length_cons]; omega
/-- An end lies within the list. -/
theorem endI_in (l : List Nd) (i : Int) : -1 ≤ endI l i ∧ endI l i ≤ (l.length : Int) := by
  unfold endI
  split
  · omega
  · cases e : endW l.length (l.drop i.toNat) 1 with
    | none => show -1 ≤ (-1 : Int) ∧ (-1 : Int) ≤ _; omega
    | some m =>
      have h := endW_le e
      rw [List.length_drop] at h
      show -1 ≤ i + (m : Int) ∧ i + (m : Int) ≤ _
      by_cases hm : m = 0
      · subst hm
        exfalso
        cases hd : l.drop i.toNat with
        | nil => rw [hd] at e; cases e
        | cons x r =>
          rw [hd, endW] at e
          split at e
          · cases e
          · split at e
            · cases e
            · cases e2 : endW l.length r (1 - 1 + x.n.toNat) with
              | none => rw [e2] at e; cases e
              | some q => rw [e2] at e; cases e
      · omega

set_option maxHeartbeats 2000000 in
set_option maxRecDepth 100000 in
theorem rKids_any {A : Option Addr} {cap i K : Nat} {l : List Nd} {x : Nd} (hl : l.length ≤ 1000000) (hx : l[i]? = some x) (hK : x.n = (K : Int)) (hK1 : K ≤ 1000000) {w : World} (H : Hid (nds w A l)) :
    Calls Tryd.prog 25 #[.slice A l.length cap, .int .i64 (i : Int)] w fun e w' => ∃ v, e = .returned v ∧ ints w' w.heap.size 3 v (kidsM l K ((i : Int) + 1)) ∧ Below w.heap.size w w' := by
  have HEnd : Hid (∀ w, nds w A l → ∀ a : Int, a ≤ 9223372036854775807 → Calls Tryd.prog 13 #[.slice A l.length cap, .int .i64 a] w fun e w' => e = .returned (.int .i64 (endI l a)) ∧ w = w') := Lib.hid (fun w h a ha => rEnd_any hl a ha (Lib.hid h))
  have HIN := Lib.hid (endI_in l)
  obtain ⟨b, off, rfl, hb, hp⟩ := H.out _ x hx
  have hc := hp.c1
  rw [hK] at hc
  have hi : i < l.length := (List.getElem?_eq_some_iff.1 hx).1
  obtain ⟨N, hN⟩ : ∃ N, N = l.length := ⟨_, rfl⟩
  rw [← hN] at HEnd HIN hi hl
  rw [← hN]
  obtain ⟨i0, hii, hz0, hz1, hz2⟩ := info_parts infoI
  obtain ⟨KK, hKK⟩ : ∃ KK, KK = kidsM l K ((i : Int) + 1) := ⟨_, rfl⟩
  rw [← hKK]
  have HKK := Lib.hid hKK
  have hi0 : (0 : Int) ≤ (i : Int) := by omega
  have hi' : (i : Int) < (N : Int) := by omega
  have HC := Lib.hid hc
  have HBB := Lib.hid hb
  clear hp hx hN hKK hc hb
  go_enter Tryd.func25, Tryd.ntmps25
  go_wp2
  go_loopw [5, 6, 7] (fun s5 s6 s7 wr => ∃ (k : Nat) (v5 : Value) (a : Int) (X : List Int), s5 = v5 ∧ s6 = .int .i64 a ∧ s7 = .int .i64 (k : Int) ∧ k ≤ K ∧ Hid (-1 ≤ a ∧ a ≤ 1000000) ∧ Hid (X.length = k) ∧ Hid (X ++ kidsM l (K - k) a = KK) ∧ Hid (ints wr w.heap.size 3 v5 X) ∧ Hid (Below w.heap.size w wr)) (fun _ _ s7 _ => K - (intOf s7).toNat)
  case atStart => exact ⟨0, _, (i : Int) + 1, [], rfl, rfl, rfl, by omega, Lib.hid (by omega), Lib.hid rfl, Lib.hid (by rw [HKK.out]; rfl), Lib.hid (ints_nil _ _ _), Lib.hid (Below.refl _ _)⟩
  case round =>
    obtain ⟨k, v5, a, X, rfl, rfl, rfl, hk, HAA, HXL, HXX, HI, HB⟩ := hrel
    have c1 := (HB.out.cell (p := ⟨b, off + i * 8 + 1, none⟩) HBB.out).trans HC.out
    obtain ⟨A5, c5, hv5⟩ := HI.out.form
    rw [HXL.out] at hv5
    subst hv5
    have HOn : Hid (wr.ownsRow w.heap.size 3 1 (.slice A5 k c5) k (Is X)) := Lib.hid (by have h := HI.out; unfold ints at h; rw [HXL.out] at h; exact h)
    by_cases hkn : k < K
    · have hkn' : (k : Int) < (K : Int) := by omega
      have HKN := Lib.hid hkn
      have HS := Lib.hid HB.out.size
      have HNX : Hid ((X ++ [a]) ++ kidsM l (K - (k + 1)) (endI l a) = KK) := Lib.hid (by
        rw [← HXX.out, show K - k = (K - (k + 1)) + 1 by omega, kidsM, List.append_assoc]; rfl)
      clear hkn
      go_wp2_with (at_builtin; refine wpList_append_own_at _ rfl _ _ 46 rfl w.heap.size 3 i0 (.int .i64 0) 1 8 Tryd.underlying46 hii hz0 hz1 hz2 rfl (by decide) _ k (Is X) rfl (HOn.out.alloc _) ⟨wr.heap.size, 0, none⟩ 1 1 [.int .i64 a] rfl rfl (cell_one_new _ _ _) ?a2 ?a3 ?a4 ?a5 ?_)
      case a2 => intro q hq; simp at hq; subst hq; rfl
      case a3 => unfold maxLen; omega
      case a4 => omega
      case a5 => have := HS.out; rw [size_alloc]; omega
      intro v3 w3 h3 g3 _ _
      rw [← HXL.out] at h3
      obtain ⟨k1, k2⟩ := ints_snoc (w := w) (Nat.le_refl _) HB.out HI.out h3 g3
      have K1 := Lib.hid k1
      have K2 := Lib.hid k2
      have HE3 : Hid (Calls Tryd.prog 13 #[.slice (some ⟨b, off, none⟩) N cap, .int .i64 a] w3 fun e w' => e = .returned (.int .i64 (endI l a)) ∧ w3 = w') := Lib.hid (HEnd.out w3 (H.out.below K2.out) a (by have := HAA.out; omega))
      obtain ⟨a', ha'⟩ : ∃ a', a' = endI l a := ⟨_, rfl⟩
      rw [← ha'] at HE3 HNX
      have HA' : Hid (-1 ≤ a' ∧ a' ≤ 1000000) := Lib.hid (by have := HIN.out a; rw [← ha'] at this; omega)
      clear h3 g3 k1 k2 c1 ha'
      go_wp2_with (go_at_call 13; refine HE3.out.mono ?_; rintro e w9 ⟨rfl, rfl⟩)
      go_roundw
      case rel => exact ⟨k + 1, _, a', X ++ [a], rfl, rfl, by go_num, by have := HKN.out; omega, HA', Lib.hid (by rw [List.length_append, HXL.out]; rfl), HNX, K1, K2⟩
      case measure => have := HKN.out; simp [intOf]; omega
    · obtain rfl : k = K := by omega
      have hkn' : ¬ (k : Int) < (k : Int) := by omega
      have HXK : Hid (X = KK) := Lib.hid (by have h := HXX.out; rw [Nat.sub_self, kidsM, List.append_nil] at h; exact h)
      go_wp2
      go_ret
      exact ⟨_, rfl, by rw [← HXK.out]; exact HI.out, HB.out⟩
end Go.Proofs.YtabcehifdomolaaDoor.Rk
namespace Go.Proofs.YtabcehifdomolaaDoor.Rn
open Go.Proofs.YtabcehifdomolaaDoor.Tm Go.Proofs.YtabcehifdomolaaDoor.Ts Go.Proofs.YtabcehifdomolaaDoor.Ta Go.Proofs.YtabcehifdomolaaDoor.Rm Go.Proofs.YtabcehifdomolaaDoor.Rv Go.Proofs.YtabcehifdomolaaDoor.Ra Go.Proofs.YtabcehifdomolaaDoor.Rk

/-- A tree stands at a place. -/
def tat (l : List Nd) (p : Nat) (t : T) : Prop := ∃ r, l.drop p = enc t ++ r
theorem tat_zero (t : T) : tat (enc t) 0 t := ⟨[], by simp⟩
/-- A tree's children. -/
def kidsT : T → List T
  | .set _ => []
  | .emp => []
  | .cat l => l
  | .alt l => l
  | .star t => [t]
  | .plus t => [t]
  | .opt t => [t]
  | .rep _ _ t => [t]
/-- A tree's first node. -/
def hd : T → Nd
  | .set a => ⟨1, 0, a, 0, 0⟩
  | .emp => ⟨2, 0, zero, 0, 0⟩
  | .cat l => ⟨3, l.length, zero, 0, 0⟩
  | .alt l => ⟨4, l.length, zero, 0, 0⟩
  | .star _ => ⟨5, 1, zero, 0, 0⟩
  | .plus _ => ⟨6, 1, zero, 0, 0⟩
  | .opt _ => ⟨7, 1, zero, 0, 0⟩
  | .rep lo hi _ => ⟨8, 1, zero, lo, hi⟩
theorem encs_one (t : T) : encs [t] = enc t := by rw [encs, encs, List.append_nil]
theorem enc_hd (t : T) : enc t = hd t :: encs (kidsT t) := by
  cases t <;> simp only [kidsT, hd, encs_one] <;> rw [enc] <;> simp only [encs]
theorem hd_n (t : T) : (hd t).n = ((kidsT t).length : Int) := by cases t <;> rfl
theorem tat.le {l : List Nd} {p : Nat} {t : T} (h : tat l p t) : p + (enc t).length ≤ l.length := by
  obtain ⟨r, e⟩ := h
  have h1 := congrArg List.length e
  have h2 := enc_pos t
  rw [List.length_drop, List.length_append] at h1
  omega
theorem tat.node {l : List Nd} {p : Nat} {t : T} (h : tat l p t) : l[p]? = some (hd t) := by
  obtain ⟨r, e⟩ := h
  have h1 : (l.drop p)[0]? = some (hd t) := by rw [e, enc_hd]; rfl
  rw [List.getElem?_drop, Nat.add_zero] at h1
  exact h1
theorem tat.tail {l : List Nd} {p : Nat} {t : T} (h : tat l p t) : ∃ r, l.drop (p + 1) = encs (kidsT t) ++ r := by
  obtain ⟨r, e⟩ := h
  refine ⟨r, ?_⟩
  rw [← List.drop_drop, e, enc_hd]
  rfl
/-- Where it ends. -/
theorem tat.end {l : List Nd} {p : Nat} {t : T} (h : tat l p t) : endI l (p : Int) = ((p + (enc t).length : Nat) : Int) := by
  have hl := h.le
  obtain ⟨r, e⟩ := h
  unfold endI
  rw [if_neg (by omega), Int.toNat_natCast, e, endW_enc _ t r 0 (by omega), if_pos rfl]
  show (p : Int) + _ = _
  omega
theorem kid_at {l : List Nd} : ∀ (ts : List T) (q : Nat) (r : List Nd), l.drop q = encs ts ++ r → ∀ (j : Nat) (t : T), ts[j]? = some t → ∃ q' : Nat, (kidsM l ts.length (q : Int))[j]? = some (q' : Int) ∧ tat l q' t
  | [], _, _, _, j, t, h => by simp at h
  | u :: ts, q, r, e, j, t, h => by
    rw [encs, List.append_assoc] at e
    have hu : tat l q u := ⟨_, e⟩
    rw [List.length_cons, kidsM, hu.end]
    cases j with
    | zero =>
      obtain rfl : u = t := by simpa using h
      exact ⟨q, rfl, hu⟩
    | succ j =>
      rw [List.getElem?_cons_succ] at h
      rw [List.getElem?_cons_succ]
      refine kid_at ts (q + (enc u).length) r ?_ j t h
      rw [← List.drop_drop, e, List.drop_left]
/-- A child's place. -/
theorem tat.kid {l : List Nd} {p : Nat} {t u : T} (h : tat l p t) {j : Nat} (hj : (kidsT t)[j]? = some u) : ∃ q : Nat, (kidsM l (kidsT t).length ((p : Int) + 1))[j]? = some (q : Int) ∧ tat l q u := by
  obtain ⟨r, e⟩ := h.tail
  have := kid_at (kidsT t) (p + 1) r e j u hj
  rw [show ((p + 1 : Nat) : Int) = (p : Int) + 1 by omega] at this
  exact this
theorem enc_mem : ∀ {ts : List T} {u : T}, u ∈ ts → (enc u).length ≤ (encs ts).length
  | [], u, h => by simp at h
  | t :: ts, u, h => by
    rw [encs, List.length_append]
    rcases List.mem_cons.1 h with rfl | h
    · omega
    · have := enc_mem h; omega
theorem kid_less {t u : T} (h : u ∈ kidsT t) : (enc u).length < (enc t).length := by
  have := enc_mem h
  rw [enc_hd t, List.length_cons]; omega
end Go.Proofs.YtabcehifdomolaaDoor.Rn
namespace Go.Proofs.YtabcehifdomolaaDoor.Ed
open Go.RowKit Go.Proofs.YtabcehifdomolaaDoor.Vm Go.Proofs.YtabcehifdomolaaDoor.Vo Go.Proofs.YtabcehifdomolaaDoor.Bw Go.Proofs.YtabcehifdomolaaDoor.Na Go.Proofs.YtabcehifdomolaaDoor.Ko Go.Proofs.YtabcehifdomolaaDoor.Tm Go.Proofs.YtabcehifdomolaaDoor.Ta Go.Proofs.YtabcehifdomolaaDoor.Tb Go.Proofs.YtabcehifdomolaaDoor.Td Go.Proofs.YtabcehifdomolaaDoor.Tf Go.Proofs.YtabcehifdomolaaDoor.Rm Go.Proofs.YtabcehifdomolaaDoor.Rv Go.Proofs.YtabcehifdomolaaDoor.Ra Go.Proofs.YtabcehifdomolaaDoor.Rk Go.Proofs.YtabcehifdomolaaDoor.Rn

/-- A row of values of the call's own. -/
def vs (w : World) (base : Nat) (e : TypeId) (v : Value) (l : List Value) : Prop := w.ownsRow base e 1 v l.length l
section
variable {w w' : World} {base : Nat} {e : TypeId} {v : Value} {l : List Value}
theorem vs_nil (w : World) (base : Nat) (e : TypeId) : vs w base e (.slice none 0 0) [] := World.ownsRow_nil _ _ _ _
theorem vs.draws (h : vs w base e v l) (n : Nat) : vs (w.drewN n) base e v l := h
theorem vs.only {S : Nat → Prop} (h : vs w base e v l) (k : Only S w w') (hv : ∀ i, v.ownBlock = some i → ¬ S i) : vs w' base e v l := own_only h k hv
theorem vs.below (h : vs w base e v l) (k : Below w.heap.size w w') : vs w' base e v l := h.only (S := fun _ => False) (Only.of_below k) (fun _ _ e => e)
theorem vs.le (h : vs w base e v l) : ∃ A cap, v = .slice A l.length cap ∧ l.length ≤ cap := by
  rcases h.2 with ⟨rfl, h0⟩ | ⟨g, cap, _, rfl, _, _, hc, _⟩
  · exact ⟨none, 0, by rw [h0], by omega⟩
  · exact ⟨_, cap, rfl, hc⟩
theorem vs.lo (h : vs w base e v l) : ∀ i, v.ownBlock = some i → base ≤ i ∧ i < w.heap.size := fun i hi => World.ownsRow.lt h i hi
theorem vs.cell {A : Option Addr} {n cap : Nat} (h : vs w base e (.slice A n cap) l) {j : Nat} {x : Value} (hj : l[j]? = some x) : ∃ g, A = some ⟨g, 0, none⟩ ∧ g < w.heap.size ∧ w.cell? ⟨g, j, none⟩ = some x := by
  rcases h.2 with ⟨e0, h0⟩ | ⟨g, c', cur, e1, hbl, hh, _⟩
  · have := (List.getElem?_eq_some_iff.1 hj).1
    have e0' : l.length = 0 := by first | exact h0 | (rw [h0]; rfl)
    omega
  · injection e1 with e1 _ _
    subst e1
    refine ⟨g, rfl, (World.ownsRow.lt h g rfl).2, ?_⟩
    have cc := World.ownsRow.cells (g := g) h rfl j x hj
    rw [show (⟨g, 0, none⟩ : Addr).add j = ⟨g, j, none⟩ by unfold Addr.add; split <;> simp_all] at cc
    exact cc
theorem vs_lit {e : TypeId} {x : Value} (hb : base ≤ w.heap.size) : vs (w.alloc (.cells #[x] e)) base e (.slice (some ⟨w.heap.size, 0, none⟩) 1 1) [x] :=
  World.ownsRow_lit w #[x] 1 hb (by unfold maxLen; omega) (by simp)
end
/-- A slice of nodes, as a value. -/
def sl (w : World) (v : Value) (l : List Nd) : Prop := ∃ A cap, v = .slice A l.length cap ∧ l.length ≤ cap ∧ nds w A l
theorem sl.below {w w' : World} {v : Value} {l : List Nd} (h : sl w v l) (k : Below w.heap.size w w') : sl w' v l := by
  obtain ⟨A, cap, e, hc, hn⟩ := h
  exact ⟨A, cap, e, hc, hn.below k⟩
theorem sl.one {w : World} {v : Value} {l : List Nd} (h : sl w v l) : v.oneCell' = true := by
  obtain ⟨A, cap, rfl, _⟩ := h
  rfl
theorem infoSN : (Tryd.prog.info? 22).map (fun i => (i.zero, i.size, i.bytes)) = some (some (.slice none 0 0), 1, 24) := by kernel_rfl
theorem infoST : (Tryd.prog.info? 9).map (fun i => (i.zero, i.size, i.bytes)) = some (some (.string ⟨#[]⟩), 1, 16) := by kernel_rfl
/-- 'append(v, x)', x in a cell of its own. -/
theorem wpList_vs {t e : TypeId} (ht : Tryd.prog.underlying t = some (.slice e)) {z : Value} {by' : Nat} (hinf : (Tryd.prog.info? e).map (fun i => (i.zero, i.size, i.bytes)) = some (some z, 1, by')) (hz : z.cells.size = 1) (hby : by' ≤ 1000)
    {ops : Array Oper} {rest : List Oper} {o : Oper} {a : Act} {Q : Exit → Act → World → Prop} (hgd : o.guard = none) (s x : Operand)
    (ho : o.op = .call { callee := .builtin .append, args := #[s, x], argTypes := #[t, t] }) {base : Nat} {W w : World} (HB : Below base W w) (hbW : base ≤ W.heap.size)
    {v : Value} {l : List Value} (hs : a.eval s = v) (hown : vs w base e v l) (c : Value) (hc : c.oneCell' = true) {m k : Nat} (hm : m = 1) (hx : a.eval x = .slice (some ⟨w.heap.size, 0, none⟩) m k)
    (hlen : l.length ≤ 1000000000)
    (h : ∀ v' w', vs w' base e v' (l ++ [c]) → Below base W w' → wpList Tryd.prog ops Q rest (a.put o.dst v') w') : wpList Tryd.prog ops Q (o :: rest) a (w.alloc (.cells #[c] e)) := by
  obtain ⟨i0, hi, hz0, hz1, hz2⟩ := info_parts hinf
  have hsz := HB.size
  have hmul : (l.length + 1) * by' ≤ (l.length + 1) * 1000 := Nat.mul_le_mul_left _ hby
  refine wpList_append_own_at _ hgd s x t ho base e i0 z 1 by' ht hi hz0 hz1 hz2 hz (by decide) v l.length l hs (World.ownsRow.alloc hown _) ⟨w.heap.size, 0, none⟩ m k [c] hx (by rw [hm]; rfl) (cell_one_new _ _ _) (by intro u hu; simp at hu; subst hu; exact hc) (by unfold maxLen; omega) (by rw [hm]; omega) (by rw [size_alloc]; omega) (fun v' w' h2 h3 _ _ => h v' w' ?_ ?_)
  · have : w'.ownsRow base e 1 v' (l ++ [c]).length (l ++ [c]) := by
      rw [List.length_append, show [c].length = m by rw [hm]; rfl]; exact h2
    exact this
  · exact (HB.alloc (by omega) _).grown h3 (by simp; omega) (fun k hk => (vs.lo hown k hk).1)
/-- A part of a list of nodes. -/
theorem cut_nodes {b off n cap lo hi : Nat} (h1 : lo < hi) (h2 : hi ≤ n) (h3 : n ≤ cap) (u : World) :
    (Instr.slice 22 (.slice (some ⟨b, off, none⟩) n cap) (some (.int .i64 (lo : Int))) (some (.int .i64 (hi : Int))) none).run Tryd.prog u = .ok (.slice (some ⟨b, off + lo * 8, none⟩) (hi - lo) (cap - lo)) u := by
  have c8 : ∀ w, (Go.sizeOf 38).run Tryd.prog w = .ok 8 w := fun w => by first | exact Tryd.sizeOf38 w | kernel_rfl
  have g1 : (0 : Int) ≤ (lo : Int) := by omega
  have g2 : (lo : Int) ≤ (hi : Int) := by omega
  have g3 : (hi : Int) ≤ (cap : Int) := by omega
  have g4 : ¬ (cap = lo) := by omega
  have e : (⟨b, off, none⟩ : Addr).add (lo * 8) = ⟨b, off + lo * 8, none⟩ := by unfold Addr.add; split <;> simp_all
  go_simp
  first | done | simp [e] | (simp [g4, e])
/-- .. as a law at the operation. -/
theorem wpList_cutN {w : World} {ops : Array Oper} {rest : List Oper} {o : Oper} {a : Act} {Q : Exit → Act → World → Prop} (hgd : o.guard = none) (y i j : Operand) (ho : o.op = .slice 22 y (some i) (some j) none)
    (V I J R : Value) (hV : a.eval y = V) (hI : a.eval i = I) (hJ : a.eval j = J) (hr : ∀ u : World, (Instr.slice 22 V (some I) (some J) none).run Tryd.prog u = .ok R u) (h : wpList Tryd.prog ops Q rest (a.put o.dst R) w) : wpList Tryd.prog ops Q (o :: rest) a w := by
  refine wpList_plain hgd fun K hK => ?_
  have e : (Instr.sliceAt 22 V (some I) (some J) none).run Tryd.prog w = .ok R w := by
    rw [← hr w]; simp [Instr.sliceAt, run_underlying Tryd.underlying22]
  unfold Oper.wp execOp
  simp only [ho, Sem.run_bind, Sem.run_pure, Result.andThen_ok, hV, hI, hJ, Option.map_some, Option.map_none, e]
  exact hK _ _ h
theorem nds.part {w : World} {A : Option Addr} {l m : List Nd} {p : Nat} {r : List Nd} (h : nds w A l) (e : l.drop p = m ++ r) : ∀ b off, A = some ⟨b, off, none⟩ → nds w (some ⟨b, off + p * 8, none⟩) m := fun b off hA i x hi => by
  have h1 : l[p + i]? = some x := by
    rw [← List.getElem?_drop, e, List.getElem?_append_left (List.getElem?_eq_some_iff.1 hi).1]; exact hi
  obtain ⟨b', off', hA', hb, hp⟩ := h (p + i) x h1
  rw [hA] at hA'
  injection hA' with hA'
  injection hA' with e1 e2 _
  subst e1; subst e2
  refine ⟨b, off + p * 8, rfl, hb, ?_⟩
  rw [show off + p * 8 + i * 8 = off + (p + i) * 8 by omega]
  exact hp
/-- Is it so of one of the first n. -/
def anyP (p : Nat → Bool) : Nat → Bool
  | 0 => false
  | n + 1 => anyP p n || p n
theorem anyP_no {p : Nat → Bool} : ∀ {n}, (∀ j, j < n → p j = false) → anyP p n = false
  | 0, _ => rfl
  | n + 1, h => by rw [anyP, anyP_no (fun j hj => h j (by omega)), h n (by omega)]; rfl
theorem anyP_yes {p : Nat → Bool} : ∀ {n j}, j < n → p j = true → anyP p n = true
  | 0, j, h, _ => absurd h (by omega)
  | n + 1, j, h, hj => by
    rw [anyP]
    rcases (show j < n ∨ j = n by omega) with h | rfl
    · rw [anyP_yes h hj]; rfl
    · rw [hj, Bool.or_true]
theorem anyP_false {p : Nat → Bool} : ∀ {n}, anyP p n = false → ∀ j, j < n → p j = false := fun {n} h j hj => by
  cases e : p j with
  | false => rfl
  | true => rw [anyP_yes hj e] at h; cases h
end Go.Proofs.YtabcehifdomolaaDoor.Ed
namespace Go.Proofs.YtabcehifdomolaaDoor.Ro
open Go.RowKit Go.Proofs.YtabcehifdomolaaDoor.Vm Go.Proofs.YtabcehifdomolaaDoor.Vo Go.Proofs.YtabcehifdomolaaDoor.Bw Go.Proofs.YtabcehifdomolaaDoor.Na Go.Proofs.YtabcehifdomolaaDoor.Ko Go.Proofs.YtabcehifdomolaaDoor.Ts Go.Proofs.YtabcehifdomolaaDoor.Rm Go.Proofs.YtabcehifdomolaaDoor.Rv Go.Proofs.YtabcehifdomolaaDoor.Ra Go.Proofs.YtabcehifdomolaaDoor.Re Go.Proofs.YtabcehifdomolaaDoor.Rf Go.Proofs.YtabcehifdomolaaDoor.Rk Go.Proofs.YtabcehifdomolaaDoor.Rn

theorem emA_stop : ∀ {ts : List T} {j : Nat} {u : T}, ts[j]? = some u → emQ u = false → emA ts = false
  | [], j, u, h, _ => by simp at h
  | t :: ts, 0, u, h, k => by
    obtain rfl : t = u := by simpa using h
    rw [emA, k]; rfl
  | t :: ts, j + 1, u, h, k => by rw [emA, emA_stop (by simpa using h) k, Bool.and_false]
theorem emO_stop : ∀ {ts : List T} {j : Nat} {u : T}, ts[j]? = some u → emQ u = true → emO ts = true
  | [], j, u, h, _ => by simp at h
  | t :: ts, 0, u, h, k => by
    obtain rfl : t = u := by simpa using h
    rw [emO, k]; rfl
  | t :: ts, j + 1, u, h, k => by rw [emO, emO_stop (by simpa using h) k, Bool.or_true]
theorem emA_all : ∀ {ts : List T}, (∀ (i : Nat) u, ts[i]? = some u → emQ u = true) → emA ts = true
  | [], _ => by rw [emA]
  | t :: ts, h => by rw [emA, h 0 t rfl, emA_all (fun i u hi => h (i + 1) u (by simpa using hi))]; rfl
theorem emO_all : ∀ {ts : List T}, (∀ (i : Nat) u, ts[i]? = some u → emQ u = false) → emO ts = false
  | [], _ => by rw [emO]
  | t :: ts, h => by rw [emO, h 0 t rfl, emO_all (fun i u hi => h (i + 1) u (by simpa using hi))]; rfl

set_option maxHeartbeats 4000000 in
set_option maxRecDepth 100000 in
theorem rEmpty_all {A : Option Addr} {cap : Nat} {l : List Nd} (hl : l.length ≤ 1000000) : ∀ (m : Nat) (t : T), (enc t).length ≤ m → ∀ (p : Nat) (w : World), nds w A l → tat l p t →
    Calls Tryd.prog 17 #[.slice A l.length cap, .int .i64 (p : Int)] w fun e w' => e = .returned (.bool (emQ t)) ∧ Below w.heap.size w w' := by
  intro m
  induction m with
  | zero => intro t hm; exact absurd hm (by have := enc_pos t; omega)
  | succ m ih =>
  intro t hm p w h ht
  have H := Lib.hid h
  have hle := ht.le
  have hkl : (kidsT t).length ≤ 1000000 := by
    have h1 := encs_le (kidsT t)
    have h2 := congrArg List.length (enc_hd t)
    rw [List.length_cons] at h2
    omega
  have HKB := Lib.hid hkl
  have HK := Lib.hid (rKids_any (cap := cap) hl ht.node (hd_n t) hkl H)
  have HKL : Hid ((kidsM l (kidsT t).length ((p : Int) + 1)).length = (kidsT t).length) := Lib.hid (kidsM_length _ _ _)
  have HKid : Hid (∀ (j : Nat) u, (kidsT t)[j]? = some u → ∃ q : Nat, (kidsM l (kidsT t).length ((p : Int) + 1))[j]? = some (q : Int) ∧ ∀ w, nds w A l → Calls Tryd.prog 17 #[.slice A l.length cap, .int .i64 (q : Int)] w fun e w' => e = .returned (.bool (emQ u)) ∧ Below w.heap.size w w') := Lib.hid (fun j u hu => by
    obtain ⟨q, hq, hqt⟩ := ht.kid hu
    exact ⟨q, hq, fun w hw => ih u (by have := kid_less (List.mem_of_getElem? hu); omega) q w hw hqt⟩)
  obtain ⟨b, off, rfl, hb, hp⟩ := h _ _ ht.node
  have HC0 := Lib.hid hp.c0
  have HC6 := Lib.hid hp.c6
  have HBB := Lib.hid hb
  have hpN : (p : Int) < (l.length : Int) := by have := enc_pos t; omega
  have hp0 : (0 : Int) ≤ (p : Int) := by omega
  clear h ht hle hkl hp hb ih hm
  obtain ⟨N, hN⟩ : ∃ N, N = l.length := ⟨_, rfl⟩
  rw [← hN] at HK HKid hpN hl
  rw [← hN]
  clear hN
  cases t with
  | set a =>
    dsimp only [hd, kidsT] at HC0 HC6 HKL HK HKid HKB
    go_enter Tryd.func17, Tryd.ntmps17
    go_wp2_with (go_at_call 25; refine HK.out.mono ?_; rintro e w1 ⟨v1, rfl, i1, k1⟩; obtain ⟨A5, c5, hv1⟩ := i1.form; rw [HKL.out] at hv1; subst hv1; have I1 := Lib.hid i1; have K1 := Lib.hid k1; have d0 := (k1.cell (p := ⟨b, off + p * 8, none⟩) HBB.out).trans HC0.out; have d6 := (k1.cell (p := ⟨b, off + p * 8 + 6, none⟩) HBB.out).trans HC6.out; clear i1 k1)
    go_ret
    exact ⟨retB (show false = _ by simp [emQ]), K1.out⟩
  | emp =>
    dsimp only [hd, kidsT] at HC0 HC6 HKL HK HKid HKB
    go_enter Tryd.func17, Tryd.ntmps17
    go_wp2_with (go_at_call 25; refine HK.out.mono ?_; rintro e w1 ⟨v1, rfl, i1, k1⟩; obtain ⟨A5, c5, hv1⟩ := i1.form; rw [HKL.out] at hv1; subst hv1; have I1 := Lib.hid i1; have K1 := Lib.hid k1; have d0 := (k1.cell (p := ⟨b, off + p * 8, none⟩) HBB.out).trans HC0.out; have d6 := (k1.cell (p := ⟨b, off + p * 8 + 6, none⟩) HBB.out).trans HC6.out; clear i1 k1)
    go_ret
    exact ⟨retB (show true = _ by simp [emQ]), K1.out⟩
  | cat ts =>
    dsimp only [hd, kidsT] at HC0 HC6 HKL HK HKid HKB
    obtain ⟨R, hR⟩ : ∃ R, R = emA ts := ⟨_, rfl⟩
    have HR := Lib.hid hR
    rw [show emQ (.cat ts) = R by rw [hR, emQ]]
    obtain ⟨K, hK⟩ : ∃ K, K = ts.length := ⟨_, rfl⟩
    have HKK := Lib.hid hK
    rw [← hK] at HKL HK HKid HKB
    have hKb := HKB.out
    obtain ⟨KK, hKK⟩ : ∃ KK, KK = kidsM l K ((p : Int) + 1) := ⟨_, rfl⟩
    rw [← hKK] at HKL HK HKid
    clear hR hK hKK
    go_enter Tryd.func17, Tryd.ntmps17
    go_wp2_with (go_at_call 25; refine HK.out.mono ?_; rintro e w1 ⟨v1, rfl, i1, k1⟩; obtain ⟨A5, c5, hv1⟩ := i1.form; rw [HKL.out] at hv1; subst hv1; have I1 := Lib.hid i1; have K1 := Lib.hid k1; have d0 := (k1.cell (p := ⟨b, off + p * 8, none⟩) HBB.out).trans HC0.out; have d6 := (k1.cell (p := ⟨b, off + p * 8 + 6, none⟩) HBB.out).trans HC6.out; clear i1 k1)
    go_loopw [6] (fun s6 wr => ∃ j : Nat, s6 = .int .i64 (j : Int) ∧ j ≤ K ∧ Hid (∀ (i : Nat) u, i < j → ts[i]? = some u → emQ u = true) ∧ Hid (Below w1.heap.size w1 wr)) (fun s6 _ => K - (intOf s6).toNat)
    case atStart => exact ⟨0, rfl, by omega, Lib.hid (fun i u hi => absurd hi (by omega)), Lib.hid (Below.refl _ _)⟩
    case round =>
      obtain ⟨j, rfl, hj, HA, HB⟩ := hrel
      by_cases hjn : j < K
      · obtain ⟨u, hu⟩ : ∃ u, ts[j]? = some u := ⟨_, List.getElem?_eq_getElem (by rw [← HKK.out]; exact hjn)⟩
        obtain ⟨q, hq, hcall⟩ := HKid.out j u hu
        obtain ⟨g5, o5, rfl, _, hc5⟩ := (ints.row (I1.out.below HB.out)) j (by rw [HKL.out]; exact hjn)
        have hat : at' KK j = (q : Int) := by
          have h1 := at_get (l := KK) (i := j) (by rw [HKL.out]; exact hjn)
          rw [hq] at h1
          exact (Option.some.inj h1).symm
        rw [hat] at hc5
        have HC := Lib.hid (hcall wr ((H.out.below K1.out).below HB.out))
        have hjn' : (j : Int) < (K : Int) := by omega
        have hj0 : (0 : Int) ≤ (j : Int) := by omega
        have HJN := Lib.hid hjn
        have HU := Lib.hid hu
        obtain ⟨eb, heb⟩ : ∃ eb, eb = emQ u := ⟨_, rfl⟩
        rw [← heb] at HC
        have HEB := Lib.hid heb
        clear hcall hq hat hjn hu heb d0 d6
        cases eb with
        | false =>
          have HX : Hid (R = false) := Lib.hid (by rw [HR.out]; exact emA_stop HU.out HEB.out.symm)
          go_wp2_with (go_at_call 17; refine HC.out.mono ?_; rintro e w9 ⟨rfl, k9⟩; have K9 := Lib.hid k9; clear k9)
          go_ret
          exact ⟨retB HX.out.symm, grows (grows K1.out HB.out) K9.out⟩
        | true =>
          have HA' : Hid (∀ (i : Nat) u, i < j + 1 → ts[i]? = some u → emQ u = true) := Lib.hid (fun i y hi hy => by
            rcases (show i < j ∨ i = j by omega) with h | rfl
            · exact HA.out i y h hy
            · rw [HU.out] at hy
              obtain rfl := Option.some.inj hy
              exact HEB.out.symm)
          go_wp2_with (go_at_call 17; refine HC.out.mono ?_; rintro e w9 ⟨rfl, k9⟩; have K9 := Lib.hid k9; clear k9)
          go_roundw
          case rel => exact ⟨j + 1, by go_num, by have := HJN.out; omega, HA', Lib.hid (grows HB.out K9.out)⟩
          case measure => have := HJN.out; simp [intOf]; omega
      · have hj' : ¬ (j : Int) < (K : Int) := by omega
        have HX : Hid (R = true) := Lib.hid (by rw [HR.out]; exact emA_all (fun i u hi => HA.out i u (by have := (List.getElem?_eq_some_iff.1 hi).1; have := HKK.out; omega) hi))
        go_wp2
        go_ret
        exact ⟨retB HX.out.symm, grows K1.out HB.out⟩
  | alt ts =>
    dsimp only [hd, kidsT] at HC0 HC6 HKL HK HKid HKB
    obtain ⟨R, hR⟩ : ∃ R, R = emO ts := ⟨_, rfl⟩
    have HR := Lib.hid hR
    rw [show emQ (.alt ts) = R by rw [hR, emQ]]
    obtain ⟨K, hK⟩ : ∃ K, K = ts.length := ⟨_, rfl⟩
    have HKK := Lib.hid hK
    rw [← hK] at HKL HK HKid HKB
    have hKb := HKB.out
    obtain ⟨KK, hKK⟩ : ∃ KK, KK = kidsM l K ((p : Int) + 1) := ⟨_, rfl⟩
    rw [← hKK] at HKL HK HKid
    clear hR hK hKK
    go_enter Tryd.func17, Tryd.ntmps17
    go_wp2_with (go_at_call 25; refine HK.out.mono ?_; rintro e w1 ⟨v1, rfl, i1, k1⟩; obtain ⟨A5, c5, hv1⟩ := i1.form; rw [HKL.out] at hv1; subst hv1; have I1 := Lib.hid i1; have K1 := Lib.hid k1; have d0 := (k1.cell (p := ⟨b, off + p * 8, none⟩) HBB.out).trans HC0.out; have d6 := (k1.cell (p := ⟨b, off + p * 8 + 6, none⟩) HBB.out).trans HC6.out; clear i1 k1)
    go_loopw [7] (fun s6 wr => ∃ j : Nat, s6 = .int .i64 (j : Int) ∧ j ≤ K ∧ Hid (∀ (i : Nat) u, i < j → ts[i]? = some u → emQ u = false) ∧ Hid (Below w1.heap.size w1 wr)) (fun s6 _ => K - (intOf s6).toNat)
    case atStart => exact ⟨0, rfl, by omega, Lib.hid (fun i u hi => absurd hi (by omega)), Lib.hid (Below.refl _ _)⟩
    case round =>
      obtain ⟨j, rfl, hj, HA, HB⟩ := hrel
      by_cases hjn : j < K
      · obtain ⟨u, hu⟩ : ∃ u, ts[j]? = some u := ⟨_, List.getElem?_eq_getElem (by rw [← HKK.out]; exact hjn)⟩
        obtain ⟨q, hq, hcall⟩ := HKid.out j u hu
        obtain ⟨g5, o5, rfl, _, hc5⟩ := (ints.row (I1.out.below HB.out)) j (by rw [HKL.out]; exact hjn)
        have hat : at' KK j = (q : Int) := by
          have h1 := at_get (l := KK) (i := j) (by rw [HKL.out]; exact hjn)
          rw [hq] at h1
          exact (Option.some.inj h1).symm
        rw [hat] at hc5
        have HC := Lib.hid (hcall wr ((H.out.below K1.out).below HB.out))
        have hjn' : (j : Int) < (K : Int) := by omega
        have hj0 : (0 : Int) ≤ (j : Int) := by omega
        have HJN := Lib.hid hjn
        have HU := Lib.hid hu
        obtain ⟨eb, heb⟩ : ∃ eb, eb = emQ u := ⟨_, rfl⟩
        rw [← heb] at HC
        have HEB := Lib.hid heb
        clear hcall hq hat hjn hu heb d0 d6
        cases eb with
        | true =>
          have HX : Hid (R = true) := Lib.hid (by rw [HR.out]; exact emO_stop HU.out HEB.out.symm)
          go_wp2_with (go_at_call 17; refine HC.out.mono ?_; rintro e w9 ⟨rfl, k9⟩; have K9 := Lib.hid k9; clear k9)
          go_ret
          exact ⟨retB HX.out.symm, grows (grows K1.out HB.out) K9.out⟩
        | false =>
          have HA' : Hid (∀ (i : Nat) u, i < j + 1 → ts[i]? = some u → emQ u = false) := Lib.hid (fun i y hi hy => by
            rcases (show i < j ∨ i = j by omega) with h | rfl
            · exact HA.out i y h hy
            · rw [HU.out] at hy
              obtain rfl := Option.some.inj hy
              exact HEB.out.symm)
          go_wp2_with (go_at_call 17; refine HC.out.mono ?_; rintro e w9 ⟨rfl, k9⟩; have K9 := Lib.hid k9; clear k9)
          go_roundw
          case rel => exact ⟨j + 1, by go_num, by have := HJN.out; omega, HA', Lib.hid (grows HB.out K9.out)⟩
          case measure => have := HJN.out; simp [intOf]; omega
      · have hj' : ¬ (j : Int) < (K : Int) := by omega
        have HX : Hid (R = false) := Lib.hid (by rw [HR.out]; exact emO_all (fun i u hi => HA.out i u (by have := (List.getElem?_eq_some_iff.1 hi).1; have := HKK.out; omega) hi))
        go_wp2
        go_ret
        exact ⟨retB HX.out.symm, grows K1.out HB.out⟩
  | star u =>
    dsimp only [hd, kidsT] at HC0 HC6 HKL HK HKid HKB
    go_enter Tryd.func17, Tryd.ntmps17
    go_wp2_with (go_at_call 25; refine HK.out.mono ?_; rintro e w1 ⟨v1, rfl, i1, k1⟩; obtain ⟨A5, c5, hv1⟩ := i1.form; rw [HKL.out] at hv1; subst hv1; have I1 := Lib.hid i1; have K1 := Lib.hid k1; have d0 := (k1.cell (p := ⟨b, off + p * 8, none⟩) HBB.out).trans HC0.out; have d6 := (k1.cell (p := ⟨b, off + p * 8 + 6, none⟩) HBB.out).trans HC6.out; clear i1 k1)
    go_ret
    exact ⟨retB (show true = _ by simp [emQ]), K1.out⟩
  | plus u =>
    dsimp only [hd, kidsT] at HC0 HC6 HKL HK HKid HKB
    obtain ⟨KK, hKK⟩ : ∃ KK, KK = kidsM l [u].length ((p : Int) + 1) := ⟨_, rfl⟩
    rw [← hKK] at HKL HK HKid
    clear hKK
    obtain ⟨q, hq, hcall⟩ := HKid.out 0 u rfl
    have HL1 : Hid (KK.length = 1) := Lib.hid HKL.out
    have HKL := HL1
    have HAT : Hid (at' KK 0 = (q : Int)) := Lib.hid (by
      have h1 := at_get (l := KK) (i := 0) (by rw [HL1.out]; decide)
      rw [hq] at h1
      exact (Option.some.inj h1).symm)
    have HCC := Lib.hid hcall
    clear hq hcall
    go_enter Tryd.func17, Tryd.ntmps17
    go_wp2_with (first | (go_at_call 25; refine HK.out.mono ?_; rintro e w1 ⟨v1, rfl, i1, k1⟩; obtain ⟨A5, c5, hv1⟩ := i1.form; rw [HKL.out] at hv1; subst hv1; have I1 := Lib.hid i1; have K1 := Lib.hid k1; have d0 := (k1.cell (p := ⟨b, off + p * 8, none⟩) HBB.out).trans HC0.out; have d6 := (k1.cell (p := ⟨b, off + p * 8 + 6, none⟩) HBB.out).trans HC6.out; clear i1 k1; obtain ⟨g5, o5, rfl, _, hc5⟩ := (ints.row I1.out) 0 (by rw [HKL.out]; decide); rw [HAT.out, Nat.add_zero] at hc5; have HC := Lib.hid (HCC.out w1 (H.out.below K1.out))) | (go_at_call 17; refine HC.out.mono ?_; rintro e w9 ⟨rfl, k9⟩; have K9 := Lib.hid k9; clear k9))
    go_ret
    exact ⟨retB (show emQ u = _ by rw [emQ]), grows K1.out K9.out⟩
  | opt u =>
    dsimp only [hd, kidsT] at HC0 HC6 HKL HK HKid HKB
    go_enter Tryd.func17, Tryd.ntmps17
    go_wp2_with (go_at_call 25; refine HK.out.mono ?_; rintro e w1 ⟨v1, rfl, i1, k1⟩; obtain ⟨A5, c5, hv1⟩ := i1.form; rw [HKL.out] at hv1; subst hv1; have I1 := Lib.hid i1; have K1 := Lib.hid k1; have d0 := (k1.cell (p := ⟨b, off + p * 8, none⟩) HBB.out).trans HC0.out; have d6 := (k1.cell (p := ⟨b, off + p * 8 + 6, none⟩) HBB.out).trans HC6.out; clear i1 k1)
    go_ret
    exact ⟨retB (show true = _ by simp [emQ]), K1.out⟩
  | rep lo hi u =>
    dsimp only [hd, kidsT] at HC0 HC6 HKL HK HKid HKB
    obtain ⟨KK, hKK⟩ : ∃ KK, KK = kidsM l [u].length ((p : Int) + 1) := ⟨_, rfl⟩
    rw [← hKK] at HKL HK HKid
    clear hKK
    obtain ⟨q, hq, hcall⟩ := HKid.out 0 u rfl
    have HL1 : Hid (KK.length = 1) := Lib.hid HKL.out
    have HKL := HL1
    have HAT : Hid (at' KK 0 = (q : Int)) := Lib.hid (by
      have h1 := at_get (l := KK) (i := 0) (by rw [HL1.out]; decide)
      rw [hq] at h1
      exact (Option.some.inj h1).symm)
    have HCC := Lib.hid hcall
    clear hq hcall
    by_cases hlo : lo = 0
    · subst hlo
      go_enter Tryd.func17, Tryd.ntmps17
      go_wp2_with (first | (go_at_call 25; refine HK.out.mono ?_; rintro e w1 ⟨v1, rfl, i1, k1⟩; obtain ⟨A5, c5, hv1⟩ := i1.form; rw [HKL.out] at hv1; subst hv1; have I1 := Lib.hid i1; have K1 := Lib.hid k1; have d0 := (k1.cell (p := ⟨b, off + p * 8, none⟩) HBB.out).trans HC0.out; have d6 := (k1.cell (p := ⟨b, off + p * 8 + 6, none⟩) HBB.out).trans HC6.out; clear i1 k1; obtain ⟨g5, o5, rfl, _, hc5⟩ := (ints.row I1.out) 0 (by rw [HKL.out]; decide); rw [HAT.out, Nat.add_zero] at hc5; have HC := Lib.hid (HCC.out w1 (H.out.below K1.out))) | (go_at_call 17; refine HC.out.mono ?_; rintro e w9 ⟨rfl, k9⟩; have K9 := Lib.hid k9; clear k9))
      go_ret
      exact ⟨retB (show true = _ by simp [emQ]), K1.out⟩
    · have hlo' : ((lo : Int) == 0) = false := by simp; exact hlo
      have HLO := Lib.hid hlo
      clear hlo
      go_enter Tryd.func17, Tryd.ntmps17
      go_wp2_with (first | (go_at_call 25; refine HK.out.mono ?_; rintro e w1 ⟨v1, rfl, i1, k1⟩; obtain ⟨A5, c5, hv1⟩ := i1.form; rw [HKL.out] at hv1; subst hv1; have I1 := Lib.hid i1; have K1 := Lib.hid k1; have d0 := (k1.cell (p := ⟨b, off + p * 8, none⟩) HBB.out).trans HC0.out; have d6 := (k1.cell (p := ⟨b, off + p * 8 + 6, none⟩) HBB.out).trans HC6.out; clear i1 k1; obtain ⟨g5, o5, rfl, _, hc5⟩ := (ints.row I1.out) 0 (by rw [HKL.out]; decide); rw [HAT.out, Nat.add_zero] at hc5; have HC := Lib.hid (HCC.out w1 (H.out.below K1.out))) | (go_at_call 17; refine HC.out.mono ?_; rintro e w9 ⟨rfl, k9⟩; have K9 := Lib.hid k9; clear k9))
      go_ret
      exact ⟨retB (show emQ u = _ by rw [emQ]; simp [HLO.out]), grows K1.out K9.out⟩
end Go.Proofs.YtabcehifdomolaaDoor.Ro
namespace Go.Proofs.YtabcehifdomolaaDoor.Ee
open Go.RowKit Go.Proofs.YtabcehifdomolaaDoor.Vm Go.Proofs.YtabcehifdomolaaDoor.Vo Go.Proofs.YtabcehifdomolaaDoor.Bw Go.Proofs.YtabcehifdomolaaDoor.Na Go.Proofs.YtabcehifdomolaaDoor.Ko Go.Proofs.YtabcehifdomolaaDoor.Tm Go.Proofs.YtabcehifdomolaaDoor.Ta Go.Proofs.YtabcehifdomolaaDoor.Tb Go.Proofs.YtabcehifdomolaaDoor.Tf Go.Proofs.YtabcehifdomolaaDoor.Rm Go.Proofs.YtabcehifdomolaaDoor.Rv Go.Proofs.YtabcehifdomolaaDoor.Ra Go.Proofs.YtabcehifdomolaaDoor.Re Go.Proofs.YtabcehifdomolaaDoor.Rk Go.Proofs.YtabcehifdomolaaDoor.Rn Go.Proofs.YtabcehifdomolaaDoor.Eb Go.Proofs.YtabcehifdomolaaDoor.Ed

theorem made_sn (n : Nat) (hn : n ≤ 1000000) (u : World) : (Instr.makeSlice 49 (.int .i64 0) (.int .i64 (n : Int))).run Tryd.prog u = .ok (.slice (some ⟨u.heap.size, 0, none⟩) 0 n) (u.alloc (.cells (madeCells #[.slice none 0 0] n) 22)) := by
  obtain ⟨i0, hi, hz0, hz1, hz2⟩ := info_parts infoSN
  have h := run_make (P := Tryd.prog) u 49 22 i0 (.slice none 0 0) Tryd.underlying49 hi hz0 .i64 .i64 0 (n : Int) (by omega) (by omega) (by rw [hz2]; omega) (by omega)
  rw [hz1] at h
  simpa [Value.cells] using h
theorem vs_made {w : World} {base n : Nat} {e : TypeId} {z : Value} (hn : n ≤ 1000000) (hb : base ≤ w.heap.size) : vs (w.alloc (.cells (madeCells #[z] n) e)) base e (.slice (some ⟨w.heap.size, 0, none⟩) 0 n) [] :=
  ⟨rfl, .inr ⟨w.heap.size, n, _, rfl, hb, heap_alloc_new w _, Nat.zero_le _, by unfold maxLen; omega, by rw [size_madeCells]; simp, rfl⟩⟩
/-- What children answers. -/
def kidV (w' : World) (L : List Value) (ts : List T) : Prop := L.length = ts.length ∧ ∀ (j : Nat) (u : T), ts[j]? = some u → ∃ x, L[j]? = some x ∧ sl w' x (enc u)

set_option maxHeartbeats 2000000 in
set_option maxRecDepth 100000 in
theorem children_any {A : Option Addr} {cap : Nat} {t : T} (hN : (enc t).length ≤ 1000000) (hcap : (enc t).length ≤ cap) {w0 w : World} (H0 : Hid (nds w0 A (enc t))) (HB0 : Hid (Below w0.heap.size w0 w)) :
    Calls Tryd.prog 27 #[.slice A (enc t).length cap] w fun e w' => ∃ v L, e = .returned v ∧ vs w' w.heap.size 22 v L ∧ kidV w0 L (kidsT t) ∧ Below w.heap.size w w' := by
  have H : Hid (nds w A (enc t)) := Lib.hid (H0.out.below HB0.out)
  have HEnd : Hid (∀ w, nds w A (enc t) → ∀ a : Int, a ≤ 9223372036854775807 → Calls Tryd.prog 12 #[.slice A (enc t).length cap, .int .i64 a] w fun e w' => e = .returned (.int .i64 (endI (enc t) a)) ∧ w = w') := Lib.hid (fun w h a ha => End_any hN a ha (Lib.hid h))
  have hnode := (tat_zero t).node
  obtain ⟨b, off, rfl, hb, hp⟩ := H.out _ _ hnode
  have hc := hp.c1
  rw [hd_n] at hc
  have hkl : (kidsT t).length ≤ 1000000 := by
    have h1 := encs_le (kidsT t)
    have h2 := congrArg List.length (enc_hd t)
    rw [List.length_cons] at h2
    omega
  have hpos := enc_pos t
  have HD : Hid ((enc t).drop 1 = encs (kidsT t)) := Lib.hid (by rw [enc_hd t]; rfl)
  have HL1 : Hid (1 + (encs (kidsT t)).length = (enc t).length) := Lib.hid (by have := congrArg List.length (enc_hd t); rw [List.length_cons] at this; omega)
  obtain ⟨l, hl⟩ : ∃ l, l = enc t := ⟨_, rfl⟩
  rw [← hl] at H0 H HEnd HD HL1 hN hcap hpos
  rw [← hl]
  obtain ⟨N, hNN⟩ : ∃ N, N = l.length := ⟨_, rfl⟩
  rw [← hNN] at HEnd HL1 hN hcap hpos
  rw [← hNN]
  obtain ⟨ks, hks⟩ : ∃ ks, ks = kidsT t := ⟨_, rfl⟩
  rw [← hks] at hc hkl HD HL1
  rw [← hks]
  obtain ⟨K, hK⟩ : ∃ K, K = ks.length := ⟨_, rfl⟩
  rw [← hK] at hc hkl
  have HC := Lib.hid hc
  have HBB := Lib.hid hb
  have HNN := Lib.hid hNN
  have HK := Lib.hid hK
  have hN0 : (0 : Int) < (N : Int) := by omega
  have hmk := made_sn K hkl
  obtain ⟨w1, hw1⟩ : ∃ w1, w1 = w.alloc (.cells (madeCells #[.slice none 0 0] K) 22) := ⟨_, rfl⟩
  have HV1 : Hid (vs w1 w.heap.size 22 (.slice (some ⟨w.heap.size, 0, none⟩) 0 K) []) := Lib.hid (by rw [hw1]; exact vs_made hkl (Nat.le_refl _))
  have HB1 : Hid (Below w.heap.size w w1) := Lib.hid (by rw [hw1]; exact below_alloc _ _)
  clear hp hnode hl hNN hks hK hb
  have hoff : off + 0 * 8 + 1 = off + 1 := by omega
  rw [hoff] at hc
  clear HC hoff
  go_enter Tryd.func27, Tryd.ntmps27
  go_wp2
  rw [← hw1]
  clear hw1 hmk hc
  go_loopw [3, 4, 5] (fun s3 s4 _ wr => ∃ (i : Nat) (v3 : Value) (L : List Value) (dn rs : List T), s3 = v3 ∧ s4 = .int .i64 (i : Int) ∧ Hid (ks = dn ++ rs) ∧ Hid (l.drop i = encs rs) ∧ Hid (i + (encs rs).length = N) ∧ Hid (L.length = dn.length) ∧ Hid (∀ (j : Nat) u, dn[j]? = some u → ∃ x, L[j]? = some x ∧ sl w0 x (enc u)) ∧ Hid (vs wr w.heap.size 22 v3 L) ∧ Hid (Below w.heap.size w wr)) (fun _ s4 _ _ => N - (intOf s4).toNat)
  case atStart => exact ⟨1, _, [], [], ks, rfl, rfl, Lib.hid rfl, HD, HL1, Lib.hid rfl, Lib.hid (fun j u h => by simp at h), HV1, HB1⟩
  case round =>
    obtain ⟨i, v3, L, dn, rs, rfl, rfl, HKS, HDR, HIL, HLL, HX, HV, HB⟩ := hrel
    cases rs with
    | nil =>
      have hi : i = N := by have := HIL.out; simp only [encs, List.length_nil] at this; omega
      subst hi
      have hlt : ¬ (i : Int) < (i : Int) := by omega
      go_wp2
      go_ret
      refine ⟨_, rfl, L, HV.out, ⟨?_, fun j u hj => ?_⟩, HB.out⟩
      · rw [HLL.out, HKS.out, List.append_nil]
      · rw [HKS.out, List.append_nil] at hj
        obtain ⟨x, hx, hs⟩ := HX.out j u hj
        exact ⟨x, hx, hs⟩
    | cons u rs =>
      have hupos := enc_pos u
      have hil : i + ((enc u).length + (encs rs).length) = N := by have := HIL.out; rw [encs, List.length_append] at this; exact this
      have hdr : l.drop i = enc u ++ encs rs := by have := HDR.out; rw [encs] at this; exact this
      have hend : endI l (i : Int) = ((i + (enc u).length : Nat) : Int) := tat.end (t := u) ⟨_, hdr⟩
      obtain ⟨j, hj⟩ : ∃ j, j = i + (enc u).length := ⟨_, rfl⟩
      rw [← hj] at hend
      have hE := HEnd.out wr (H.out.below HB.out) (i : Int) (by omega)
      rw [hend] at hE
      have HE := Lib.hid hE
      have hlt : (i : Int) < (N : Int) := by omega
      have hcut := cut_nodes (b := b) (off := off) (n := N) (cap := cap) (lo := i) (hi := j) (by omega) (by omega) hcap
      have HSL : Hid (sl w0 (.slice (some ⟨b, off + i * 8, none⟩) (j - i) (cap - i)) (enc u)) := Lib.hid ⟨_, cap - i, by rw [show j - i = (enc u).length by omega], by omega, nds.part H0.out hdr b off rfl⟩
      obtain ⟨oo, hoo⟩ : ∃ oo, oo = off + i * 8 := ⟨_, rfl⟩
      obtain ⟨nn, hnn⟩ : ∃ nn, nn = j - i := ⟨_, rfl⟩
      obtain ⟨cc, hcc⟩ : ∃ cc, cc = cap - i := ⟨_, rfl⟩
      rw [← hoo, ← hnn, ← hcc] at hcut HSL
      obtain ⟨A3, c3, hv3, _⟩ := HV.out.le
      subst hv3
      have HJ := Lib.hid (show i < j ∧ j ≤ N by omega)
      have HD' : Hid (l.drop j = encs rs) := Lib.hid (by rw [hj, ← List.drop_drop, hdr, List.drop_left])
      have HIL' : Hid (j + (encs rs).length = N) := Lib.hid (by omega)
      have HKS' : Hid (ks = (dn ++ [u]) ++ rs) := Lib.hid (by rw [HKS.out, List.append_assoc]; rfl)
      have HL9 : Hid (L.length ≤ 1000000000) := Lib.hid (by
        have h1 := congrArg List.length HKS.out
        rw [List.length_append, ← HLL.out] at h1
        have := HK.out
        omega)
      clear hE hend hj hil hdr hupos hoo hnn hcc
      go_wp2_with (first | (go_at_call 12; refine HE.out.mono ?_; rintro e w9 ⟨rfl, rfl⟩) | (refine wpList_cutN rfl (.tmp 19) (.tmp 20) (.tmp 21) rfl (.slice (some ⟨b, off, none⟩) N cap) (.int .i64 (i : Int)) (.int .i64 (j : Int)) (.slice (some ⟨b, oo, none⟩) nn cc) rfl rfl rfl hcut ?_) | (at_builtin; refine wpList_vs Tryd.underlying49 infoSN rfl (by decide) rfl _ _ rfl HB.out (Nat.le_refl _) (by rfl) HV.out (.slice (some ⟨b, oo, none⟩) nn cc) HSL.out.one rfl (by rfl) HL9.out ?_; intro v4 w4 h4 b4; have HV4 := Lib.hid h4; have HB4 := Lib.hid b4; clear h4 b4))
      go_roundw
      case rel => exact ⟨j, _, L ++ [.slice (some ⟨b, oo, none⟩) nn cc], dn ++ [u], rs, rfl, rfl, HKS', HD', HIL', Lib.hid (by rw [List.length_append, List.length_append, HLL.out]; rfl), Lib.hid (fun q y hq => by
        by_cases hqd : q < dn.length
        · rw [List.getElem?_append_left hqd] at hq
          obtain ⟨z, hz, hs⟩ := HX.out q y hq
          exact ⟨z, by rw [List.getElem?_append_left (by rw [HLL.out]; exact hqd)]; exact hz, hs⟩
        · have hqq : q = dn.length := by
            have := (List.getElem?_eq_some_iff.1 hq).1
            rw [List.length_append] at this
            have e1 : [u].length = 1 := rfl
            omega
          subst hqq
          rw [List.getElem?_append_right (Nat.le_refl _), Nat.sub_self] at hq
          obtain rfl : u = y := by simpa using hq
          exact ⟨_, by rw [← HLL.out, List.getElem?_append_right (Nat.le_refl _), Nat.sub_self]; rfl, HSL.out⟩), HV4, HB4⟩
      case measure => have := HJ.out; simp [intOf]; omega
end Go.Proofs.YtabcehifdomolaaDoor.Ee
namespace Go.Proofs.YtabcehifdomolaaDoor.En
open Go.RowKit Go.Proofs.YtabcehifdomolaaDoor.Vm Go.Proofs.YtabcehifdomolaaDoor.Vo Go.Proofs.YtabcehifdomolaaDoor.Bw Go.Proofs.YtabcehifdomolaaDoor.Na Go.Proofs.YtabcehifdomolaaDoor.Ko Go.Proofs.YtabcehifdomolaaDoor.Tm Go.Proofs.YtabcehifdomolaaDoor.Ts Go.Proofs.YtabcehifdomolaaDoor.Ta Go.Proofs.YtabcehifdomolaaDoor.Tb Go.Proofs.YtabcehifdomolaaDoor.Tf Go.Proofs.YtabcehifdomolaaDoor.Rm Go.Proofs.YtabcehifdomolaaDoor.Rv Go.Proofs.YtabcehifdomolaaDoor.Ra Go.Proofs.YtabcehifdomolaaDoor.Re Go.Proofs.YtabcehifdomolaaDoor.Rk Go.Proofs.YtabcehifdomolaaDoor.Rn Go.Proofs.YtabcehifdomolaaDoor.Ed Go.Proofs.YtabcehifdomolaaDoor.Ee

/-- A node's cells. -/
def cN (x : Nd) : List Value := [.int .i64 x.k, .int .i64 x.n] ++ x.s.map (fun y => .int .u64 (y : Int)) ++ [.int .i64 x.lo, .int .i64 x.hi]
def Nc (l : List Nd) : List Value := l.flatMap cN
structure ndOk (x : Nd) : Prop where
  s : isSet x.s
  ik : in64 x.k
  ikn : in64 x.n
  il : in64 x.lo
  ih : in64 x.hi
theorem nd1.ok {w : World} {b j : Nat} {x : Nd} (h : nd1 w b j x) : ndOk x := ⟨h.s, h.ik, h.ikn, h.il, h.ih⟩
theorem nds_ok {w : World} {A : Option Addr} {l : List Nd} (h : nds w A l) : ∀ x ∈ l, ndOk x := fun x hx => by
  obtain ⟨i, hi⟩ := List.mem_iff_getElem?.1 hx
  obtain ⟨_, _, _, _, hp⟩ := h i x hi
  exact nd1.ok hp
theorem cN_four {x : Nd} (h : isSet x.s) : ∃ x0 x1 x2 x3 : Nat, x.s = [x0, x1, x2, x3] ∧ cN x = [.int .i64 x.k, .int .i64 x.n, .int .u64 (x0 : Int), .int .u64 (x1 : Int), .int .u64 (x2 : Int), .int .u64 (x3 : Int), .int .i64 x.lo, .int .i64 x.hi] := by
  obtain ⟨x0, x1, x2, x3, e⟩ := four_of h
  exact ⟨x0, x1, x2, x3, e, by unfold cN; rw [e]; rfl⟩
theorem cN_len {x : Nd} (h : isSet x.s) : (cN x).length = 8 := by
  obtain ⟨_, _, _, _, _, e⟩ := cN_four h
  rw [e]; rfl
theorem cN_one (x : Nd) : ∀ u ∈ cN x, u.oneCell' = true := by
  intro u hu
  unfold cN at hu
  simp only [List.mem_append, List.mem_cons, List.mem_map, List.not_mem_nil, or_false] at hu
  rcases hu with ((rfl | rfl) | ⟨y, _, rfl⟩) | (rfl | rfl) <;> rfl
theorem Nc_one (l : List Nd) : ∀ u ∈ Nc l, u.oneCell' = true := by
  intro u hu
  obtain ⟨x, _, h⟩ := List.mem_flatMap.1 hu
  exact cN_one x u h
theorem Nc_append (a b : List Nd) : Nc (a ++ b) = Nc a ++ Nc b := by simp [Nc]
theorem Nc_len : ∀ {l : List Nd}, (∀ x ∈ l, ndOk x) → (Nc l).length = l.length * 8
  | [], _ => rfl
  | x :: l, h => by
    have h1 := Nc_len (l := l) (fun y hy => h y (by simp [hy]))
    have h2 := cN_len (h x (by simp)).s
    show (cN x ++ Nc l).length = _
    rw [List.length_append, h1, h2, List.length_cons]; omega
theorem Nc_get : ∀ {l : List Nd}, (∀ x ∈ l, ndOk x) → ∀ {i : Nat} {x : Nd}, l[i]? = some x → ∀ {j : Nat} {v : Value}, (cN x)[j]? = some v → (Nc l)[i * 8 + j]? = some v
  | [], _, _, _, h, _, _, _ => by simp at h
  | y :: l, ho, 0, x, h, j, v, hv => by
    simp at h
    subst h
    have e : Nc (y :: l) = cN y ++ Nc l := rfl
    rw [e, Nat.zero_mul, Nat.zero_add, List.getElem?_append_left (List.getElem?_eq_some_iff.1 hv).1]
    exact hv
  | y :: l, ho, i + 1, x, h, j, v, hv => by
    rw [List.getElem?_cons_succ] at h
    have e : Nc (y :: l) = cN y ++ Nc l := rfl
    have h8 := cN_len (ho y (by simp)).s
    rw [e, List.getElem?_append_right (by omega), h8]
    have e2 : (i + 1) * 8 + j - 8 = i * 8 + j := by omega
    rw [e2]
    exact Nc_get (fun z hz => ho z (by simp [hz])) h hv
/-- A cell of a list of nodes that is read. -/
theorem nds_cell {w : World} {b off : Nat} : ∀ {l : List Nd}, nds w (some ⟨b, off, none⟩) l → ∀ (j : Nat) (u : Value), (Nc l)[j]? = some u → w.cell? ((⟨b, off, none⟩ : Addr).add j) = some u := by
  intro l h j u hu
  have ho := nds_ok h
  have hj : j < l.length * 8 := by rw [← Nc_len ho]; exact (List.getElem?_eq_some_iff.1 hu).1
  obtain ⟨x, hx⟩ : ∃ x, l[j / 8]? = some x := ⟨_, List.getElem?_eq_getElem (by omega)⟩
  obtain ⟨b', off', e0, _, hp⟩ := h _ x hx
  injection e0 with e0
  injection e0 with e1 e2 _
  subst e1; subst e2
  obtain ⟨x0, x1, x2, x3, hs, e⟩ := cN_four hp.s
  have hv : (cN x)[j % 8]? = some u := by
    obtain ⟨v, hv⟩ : ∃ v, (cN x)[j % 8]? = some v := ⟨_, List.getElem?_eq_getElem (by rw [cN_len hp.s]; omega)⟩
    have := Nc_get ho hx hv
    rw [show j / 8 * 8 + j % 8 = j by omega, hu] at this
    rw [hv, this]
  have ea : (⟨b, off, none⟩ : Addr).add j = ⟨b, off + j / 8 * 8 + j % 8, none⟩ := by
    have : off + j = off + j / 8 * 8 + j % 8 := by omega
    unfold Addr.add; split <;> simp_all
  rw [ea]
  have hlt : j % 8 < 8 := Nat.mod_lt _ (by decide)
  rw [e] at hv
  generalize j % 8 = r at *
  have p2 := hp.cs 0 x0 (by rw [hs]; rfl)
  have p3 := hp.cs 1 x1 (by rw [hs]; rfl)
  have p4 := hp.cs 2 x2 (by rw [hs]; rfl)
  have p5 := hp.cs 3 x3 (by rw [hs]; rfl)
  match r, hlt, hv with
  | 0, _, hv => rw [← hv]; exact hp.c0
  | 1, _, hv => rw [← hv]; exact hp.c1
  | 2, _, hv => rw [← hv]; exact p2
  | 3, _, hv => rw [← hv]; exact p3
  | 4, _, hv => rw [← hv]; exact p4
  | 5, _, hv => rw [← hv]; exact p5
  | 6, _, hv => rw [← hv]; exact hp.c6
  | 7, _, hv => rw [← hv]; exact hp.c7
/-- A row of nodes of the call's own. -/
def nw (w : World) (base : Nat) (v : Value) (l : List Nd) : Prop := w.ownsRow base 38 8 v l.length (Nc l)
section
variable {w w' : World} {base : Nat} {v : Value} {l : List Nd}
theorem nw.lo (h : nw w base v l) : ∀ i, v.ownBlock = some i → base ≤ i ∧ i < w.heap.size := fun i hi => World.ownsRow.lt h i hi
theorem nw.le (h : nw w base v l) : ∃ A cap, v = .slice A l.length cap ∧ l.length ≤ cap := by
  rcases h.2 with ⟨rfl, h0⟩ | ⟨g, cap, _, rfl, _, _, hc, _⟩
  · exact ⟨none, 0, by rw [h0], by omega⟩
  · exact ⟨_, cap, rfl, hc⟩
/-- It is read. -/
theorem nw.read (h : nw w base v l) (ho : ∀ x ∈ l, ndOk x) : sl w v l := by
  rcases h.2 with ⟨rfl, h0⟩ | ⟨g, cap, _, rfl, _, _, hc, _⟩
  · have e0 : l.length = 0 := by first | exact h0 | (rw [h0]; rfl)
    obtain rfl := List.eq_nil_of_length_eq_zero e0
    exact ⟨none, 0, rfl, Nat.le_refl _, nds_nil _ _⟩
  · refine ⟨_, cap, rfl, hc, fun i x hx => ?_⟩
    have hg := (World.ownsRow.lt h g rfl).2
    have cc := World.ownsRow.cells (g := g) h rfl
    have hxo := ho x (List.mem_of_getElem? hx)
    have cg : ∀ j v, (cN x)[j]? = some v → w.cell? ⟨g, 0 + i * 8 + j, none⟩ = some v := fun j v hv => by
      have := cc _ _ (Nc_get ho hx hv)
      rw [show (⟨g, 0, none⟩ : Addr).add (i * 8 + j) = ⟨g, 0 + i * 8 + j, none⟩ by unfold Addr.add; split <;> simp_all] at this
      exact this
    obtain ⟨x0, x1, x2, x3, hs, e⟩ := cN_four hxo.s
    rw [e] at cg
    refine ⟨g, 0, rfl, hg, hxo.s, hxo.ik, hxo.ikn, hxo.il, hxo.ih, cg 0 _ rfl, cg 1 _ rfl, fun q y hq => ?_, cg 6 _ rfl, cg 7 _ rfl⟩
    rw [hs] at hq
    have hq4 : q < 4 := (List.getElem?_eq_some_iff.1 hq).1
    match q, hq4, hq with
    | 0, _, hq => obtain rfl : x0 = y := by simpa using hq
                  exact cg 2 _ rfl
    | 1, _, hq => obtain rfl : x1 = y := by simpa using hq
                  exact cg 3 _ rfl
    | 2, _, hq => obtain rfl : x2 = y := by simpa using hq
                  exact cg 4 _ rfl
    | 3, _, hq => obtain rfl : x3 = y := by simpa using hq
                  exact cg 5 _ rfl
end
theorem infoNd : (Tryd.prog.info? 38).map (fun i => (i.zero, i.size, i.bytes)) = some (some (.agg #[.int .i64 0, .int .i64 0, .int .u64 0, .int .u64 0, .int .u64 0, .int .u64 0, .int .i64 0, .int .i64 0]), 8, 64) := by kernel_rfl
end Go.Proofs.YtabcehifdomolaaDoor.En
namespace Go.Proofs.YtabcehifdomolaaDoor.Ef
open Go.RowKit Go.Proofs.YtabcehifdomolaaDoor.Vm Go.Proofs.YtabcehifdomolaaDoor.Vo Go.Proofs.YtabcehifdomolaaDoor.Bw Go.Proofs.YtabcehifdomolaaDoor.Na Go.Proofs.YtabcehifdomolaaDoor.Ko Go.Proofs.YtabcehifdomolaaDoor.Tm Go.Proofs.YtabcehifdomolaaDoor.Ta Go.Proofs.YtabcehifdomolaaDoor.Tb Go.Proofs.YtabcehifdomolaaDoor.Tf Go.Proofs.YtabcehifdomolaaDoor.Rm Go.Proofs.YtabcehifdomolaaDoor.Rv Go.Proofs.YtabcehifdomolaaDoor.Ra Go.Proofs.YtabcehifdomolaaDoor.Re Go.Proofs.YtabcehifdomolaaDoor.Rf Go.Proofs.YtabcehifdomolaaDoor.Rk Go.Proofs.YtabcehifdomolaaDoor.Rn Go.Proofs.YtabcehifdomolaaDoor.Ro Go.Proofs.YtabcehifdomolaaDoor.Eb Go.Proofs.YtabcehifdomolaaDoor.Ed Go.Proofs.YtabcehifdomolaaDoor.Ee

/-- What a test answers of each element. -/
def tests (f : Nat) (w : World) (L : List Value) (p : Nat → Bool) : Prop := ∀ (j : Nat) x, L[j]? = some x → (∃ A n c, x = .slice A n c) ∧ ∀ w', Below w.heap.size w w' → Calls Tryd.prog f #[x] w' fun e w'' => e = .returned (.bool (p j)) ∧ Below w'.heap.size w' w''

set_option maxHeartbeats 1000000 in
set_option maxRecDepth 100000 in
theorem Index_empty {v : Value} {L : List Value} {base : Nat} {p : Nat → Bool} {w : World} (HV : Hid (vs w base 22 v L)) (HT : Hid (tests 24 w L p)) (hl : L.length ≤ 1000000) :
    Calls Tryd.prog 53 #[v, .func (.func 24) #[] #[]] w fun e w' => ∃ z : Int, e = .returned (.int .i64 z) ∧ decide (0 ≤ z) = anyP p L.length ∧ Below w.heap.size w w' := by
  obtain ⟨A, cap, rfl, hcap⟩ := HV.out.le
  obtain ⟨n, hn⟩ : ∃ n, n = L.length := ⟨_, rfl⟩
  have HN := Lib.hid hn
  rw [← hn] at hl hcap
  rw [← hn]
  have HV' : Hid (vs w base 22 (.slice A n cap) L) := Lib.hid (by rw [hn]; exact HV.out)
  clear hn HV
  go_enter Tryd.func53, Tryd.ntmps53
  go_wp2
  go_loopw [8] (fun s8 wr => ∃ j : Nat, s8 = .int .i64 (j : Int) ∧ j ≤ n ∧ Hid (∀ i, i < j → p i = false) ∧ Hid (Below w.heap.size w wr)) (fun s8 _ => n - (intOf s8).toNat)
  case atStart => exact ⟨0, rfl, Nat.zero_le _, Lib.hid (fun i hi => absurd hi (by omega)), Lib.hid (Below.refl _ _)⟩
  case round =>
    obtain ⟨j, rfl, hj, HA, HB⟩ := hrel
    by_cases hjn : j < n
    · obtain ⟨x, hx⟩ : ∃ x, L[j]? = some x := ⟨_, List.getElem?_eq_getElem (by rw [← HN.out]; exact hjn)⟩
      obtain ⟨⟨A1, n1, c1, rfl⟩, hcall⟩ := HT.out j x hx
      obtain ⟨g, rfl, hg, hc⟩ := HV'.out.cell hx
      have hc' := (HB.out.cell (p := ⟨g, j, none⟩) hg).trans hc
      have HC := Lib.hid (hcall wr HB.out)
      have hj1 : (j : Int) < (n : Int) := by omega
      have hj0 : (0 : Int) ≤ (j : Int) := by omega
      have HJN := Lib.hid hjn
      obtain ⟨pb, hpb⟩ : ∃ pb, pb = p j := ⟨_, rfl⟩
      rw [← hpb] at HC
      have HPB := Lib.hid hpb
      clear hcall hc hx hjn hpb
      cases pb with
      | true =>
        go_wp2_with (go_at_call 24; refine HC.out.mono ?_; rintro e w9 ⟨rfl, k9⟩; have K9 := Lib.hid k9; clear k9)
        go_ret
        exact ⟨_, rfl, by rw [anyP_yes HJN.out HPB.out.symm]; simp, grows HB.out K9.out⟩
      | false =>
        go_wp2_with (go_at_call 24; refine HC.out.mono ?_; rintro e w9 ⟨rfl, k9⟩; have K9 := Lib.hid k9; clear k9)
        go_roundw
        case rel => exact ⟨j + 1, by go_num, by have := HJN.out; omega, Lib.hid (fun i hi => by
          rcases (show i < j ∨ i = j by omega) with h | rfl
          · exact HA.out i h
          · exact HPB.out.symm), Lib.hid (grows HB.out K9.out)⟩
        case measure => have := HJN.out; simp [intOf]; omega
    · obtain rfl : j = n := by omega
      have hj1 : ¬ (j : Int) < (j : Int) := by omega
      go_wp2
      go_ret
      exact ⟨_, rfl, by rw [anyP_no HA.out]; simp, HB.out⟩
set_option maxRecDepth 100000 in
theorem Contains_empty {v : Value} {L : List Value} {base : Nat} {p : Nat → Bool} {w : World} (HV : Hid (vs w base 22 v L)) (HT : Hid (tests 24 w L p)) (hl : L.length ≤ 1000000) :
    Calls Tryd.prog 36 #[v, .func (.func 24) #[] #[]] w fun e w' => e = .returned (.bool (anyP p L.length)) ∧ Below w.heap.size w w' := by
  have HI := Lib.hid (Index_empty HV HT hl)
  obtain ⟨A, cap, hv, _⟩ := HV.out.le
  subst hv
  obtain ⟨R, hR⟩ : ∃ R, R = anyP p L.length := ⟨_, rfl⟩
  rw [← hR] at HI ⊢
  clear hR
  go_enter Tryd.func36, Tryd.ntmps36
  go_wp2_with (go_at_call 53; refine HI.out.mono ?_; rintro e w9 ⟨z, rfl, hz, k9⟩; have HZ := Lib.hid hz; have K9 := Lib.hid k9; clear hz k9)
  go_ret
  exact ⟨retB HZ.out, K9.out⟩

set_option maxHeartbeats 1000000 in
set_option maxRecDepth 100000 in
theorem Index_emptyNot {v : Value} {L : List Value} {base : Nat} {p : Nat → Bool} {w : World} (HV : Hid (vs w base 22 v L)) (HT : Hid (tests 37 w L p)) (hl : L.length ≤ 1000000) :
    Calls Tryd.prog 53 #[v, .func (.func 37) #[] #[]] w fun e w' => ∃ z : Int, e = .returned (.int .i64 z) ∧ decide (0 ≤ z) = anyP p L.length ∧ Below w.heap.size w w' := by
  obtain ⟨A, cap, rfl, hcap⟩ := HV.out.le
  obtain ⟨n, hn⟩ : ∃ n, n = L.length := ⟨_, rfl⟩
  have HN := Lib.hid hn
  rw [← hn] at hl hcap
  rw [← hn]
  have HV' : Hid (vs w base 22 (.slice A n cap) L) := Lib.hid (by rw [hn]; exact HV.out)
  clear hn HV
  go_enter Tryd.func53, Tryd.ntmps53
  go_wp2
  go_loopw [8] (fun s8 wr => ∃ j : Nat, s8 = .int .i64 (j : Int) ∧ j ≤ n ∧ Hid (∀ i, i < j → p i = false) ∧ Hid (Below w.heap.size w wr)) (fun s8 _ => n - (intOf s8).toNat)
  case atStart => exact ⟨0, rfl, Nat.zero_le _, Lib.hid (fun i hi => absurd hi (by omega)), Lib.hid (Below.refl _ _)⟩
  case round =>
    obtain ⟨j, rfl, hj, HA, HB⟩ := hrel
    by_cases hjn : j < n
    · obtain ⟨x, hx⟩ : ∃ x, L[j]? = some x := ⟨_, List.getElem?_eq_getElem (by rw [← HN.out]; exact hjn)⟩
      obtain ⟨⟨A1, n1, c1, rfl⟩, hcall⟩ := HT.out j x hx
      obtain ⟨g, rfl, hg, hc⟩ := HV'.out.cell hx
      have hc' := (HB.out.cell (p := ⟨g, j, none⟩) hg).trans hc
      have HC := Lib.hid (hcall wr HB.out)
      have hj1 : (j : Int) < (n : Int) := by omega
      have hj0 : (0 : Int) ≤ (j : Int) := by omega
      have HJN := Lib.hid hjn
      obtain ⟨pb, hpb⟩ : ∃ pb, pb = p j := ⟨_, rfl⟩
      rw [← hpb] at HC
      have HPB := Lib.hid hpb
      clear hcall hc hx hjn hpb
      cases pb with
      | true =>
        go_wp2_with (go_at_call 37; refine HC.out.mono ?_; rintro e w9 ⟨rfl, k9⟩; have K9 := Lib.hid k9; clear k9)
        go_ret
        exact ⟨_, rfl, by rw [anyP_yes HJN.out HPB.out.symm]; simp, grows HB.out K9.out⟩
      | false =>
        go_wp2_with (go_at_call 37; refine HC.out.mono ?_; rintro e w9 ⟨rfl, k9⟩; have K9 := Lib.hid k9; clear k9)
        go_roundw
        case rel => exact ⟨j + 1, by go_num, by have := HJN.out; omega, Lib.hid (fun i hi => by
          rcases (show i < j ∨ i = j by omega) with h | rfl
          · exact HA.out i h
          · exact HPB.out.symm), Lib.hid (grows HB.out K9.out)⟩
        case measure => have := HJN.out; simp [intOf]; omega
    · obtain rfl : j = n := by omega
      have hj1 : ¬ (j : Int) < (j : Int) := by omega
      go_wp2
      go_ret
      exact ⟨_, rfl, by rw [anyP_no HA.out]; simp, HB.out⟩
set_option maxRecDepth 100000 in
theorem Contains_emptyNot {v : Value} {L : List Value} {base : Nat} {p : Nat → Bool} {w : World} (HV : Hid (vs w base 22 v L)) (HT : Hid (tests 37 w L p)) (hl : L.length ≤ 1000000) :
    Calls Tryd.prog 36 #[v, .func (.func 37) #[] #[]] w fun e w' => e = .returned (.bool (anyP p L.length)) ∧ Below w.heap.size w w' := by
  have HI := Lib.hid (Index_emptyNot HV HT hl)
  obtain ⟨A, cap, hv, _⟩ := HV.out.le
  subst hv
  obtain ⟨R, hR⟩ : ∃ R, R = anyP p L.length := ⟨_, rfl⟩
  rw [← hR] at HI ⊢
  clear hR
  go_enter Tryd.func36, Tryd.ntmps36
  go_wp2_with (go_at_call 53; refine HI.out.mono ?_; rintro e w9 ⟨z, rfl, hz, k9⟩; have HZ := Lib.hid hz; have K9 := Lib.hid k9; clear hz k9)
  go_ret
  exact ⟨retB HZ.out, K9.out⟩
end Go.Proofs.YtabcehifdomolaaDoor.Ef
namespace Go.Proofs.YtabcehifdomolaaDoor.Eh
open Go.RowKit Go.Proofs.YtabcehifdomolaaDoor.Vm Go.Proofs.YtabcehifdomolaaDoor.Vo Go.Proofs.YtabcehifdomolaaDoor.Bw Go.Proofs.YtabcehifdomolaaDoor.Na Go.Proofs.YtabcehifdomolaaDoor.Ko Go.Proofs.YtabcehifdomolaaDoor.Tm Go.Proofs.YtabcehifdomolaaDoor.Ts Go.Proofs.YtabcehifdomolaaDoor.Ta Go.Proofs.YtabcehifdomolaaDoor.Tb Go.Proofs.YtabcehifdomolaaDoor.Tf Go.Proofs.YtabcehifdomolaaDoor.Rm Go.Proofs.YtabcehifdomolaaDoor.Rv Go.Proofs.YtabcehifdomolaaDoor.Ra Go.Proofs.YtabcehifdomolaaDoor.Re Go.Proofs.YtabcehifdomolaaDoor.Rf Go.Proofs.YtabcehifdomolaaDoor.Rg Go.Proofs.YtabcehifdomolaaDoor.Rk Go.Proofs.YtabcehifdomolaaDoor.Rn Go.Proofs.YtabcehifdomolaaDoor.Ro Go.Proofs.YtabcehifdomolaaDoor.Eb Go.Proofs.YtabcehifdomolaaDoor.Ec Go.Proofs.YtabcehifdomolaaDoor.Ed Go.Proofs.YtabcehifdomolaaDoor.Ee Go.Proofs.YtabcehifdomolaaDoor.Ef

theorem and9 {a b c d e f g h p : Prop} (x : a ∧ b ∧ c ∧ d ∧ e ∧ f ∧ g ∧ h) (y : p) : a ∧ b ∧ c ∧ d ∧ e ∧ f ∧ g ∧ h ∧ p := ⟨x.1, x.2.1, x.2.2.1, x.2.2.2.1, x.2.2.2.2.1, x.2.2.2.2.2.1, x.2.2.2.2.2.2.1, x.2.2.2.2.2.2.2, y⟩
theorem eight_blk {w : World} {g : Nat} {T : TypeId} {c0 c1 c2 c3 c4 c5 c6 c7 : Value} (h : Blk w g T #[c0, c1, c2, c3, c4, c5, c6, c7]) :
    (w.cell? ⟨g, 0, none⟩ = some c0 ∧ w.cell? ⟨g, 1, none⟩ = some c1 ∧ w.cell? ⟨g, 2, none⟩ = some c2 ∧ w.cell? ⟨g, 3, none⟩ = some c3 ∧ w.cell? ⟨g, 4, none⟩ = some c4 ∧ w.cell? ⟨g, 5, none⟩ = some c5 ∧ w.cell? ⟨g, 6, none⟩ = some c6 ∧ w.cell? ⟨g, 7, none⟩ = some c7)
    ∧ w.frozen? ⟨g, 0, none⟩ = false ∧ w.frozen? ⟨g, 1, none⟩ = false ∧ w.frozen? ⟨g, 2, none⟩ = false ∧ w.frozen? ⟨g, 3, none⟩ = false ∧ w.frozen? ⟨g, 4, none⟩ = false ∧ w.frozen? ⟨g, 5, none⟩ = false ∧ w.frozen? ⟨g, 6, none⟩ = false ∧ w.frozen? ⟨g, 7, none⟩ = false :=
  ⟨⟨h.cell 0, h.cell 1, h.cell 2, h.cell 3, h.cell 4, h.cell 5, h.cell 6, h.cell 7⟩, h.frozen 0, h.frozen 1, h.frozen 2, h.frozen 3, h.frozen 4, h.frozen 5, h.frozen 6, h.frozen 7⟩
theorem over8_blk {w : World} {g : Nat} {T : TypeId} {c0 c1 c2 c3 c4 c5 c6 c7 : Value} (h : Blk w g T #[c0, c1, c2, c3, c4, c5, c6, c7]) (u0 u1 u2 u3 u4 u5 u6 u7 : Value) : Blk ((((((((w.setCell ⟨g, 0, none⟩ u0).setCell ⟨g, 1, none⟩ u1).setCell ⟨g, 2, none⟩ u2).setCell ⟨g, 3, none⟩ u3).setCell ⟨g, 4, none⟩ u4).setCell ⟨g, 5, none⟩ u5).setCell ⟨g, 6, none⟩ u6).setCell ⟨g, 7, none⟩ u7) g T #[u0, u1, u2, u3, u4, u5, u6, u7] := by
  have h0 : Blk _ g T #[u0, c1, c2, c3, c4, c5, c6, c7] := h.store 0 u0
  have h1 : Blk _ g T #[u0, u1, c2, c3, c4, c5, c6, c7] := h0.store 1 u1
  have h2 : Blk _ g T #[u0, u1, u2, c3, c4, c5, c6, c7] := h1.store 2 u2
  have h3 : Blk _ g T #[u0, u1, u2, u3, c4, c5, c6, c7] := h2.store 3 u3
  have h4 : Blk _ g T #[u0, u1, u2, u3, u4, c5, c6, c7] := h3.store 4 u4
  have h5 : Blk _ g T #[u0, u1, u2, u3, u4, u5, c6, c7] := h4.store 5 u5
  have h6 : Blk _ g T #[u0, u1, u2, u3, u4, u5, u6, c7] := h5.store 6 u6
  exact h6.store 7 u7
theorem over8_only (w : World) (g : Nat) (u0 u1 u2 u3 u4 u5 u6 u7 : Value) : Only (· = g) w ((((((((w.setCell ⟨g, 0, none⟩ u0).setCell ⟨g, 1, none⟩ u1).setCell ⟨g, 2, none⟩ u2).setCell ⟨g, 3, none⟩ u3).setCell ⟨g, 4, none⟩ u4).setCell ⟨g, 5, none⟩ u5).setCell ⟨g, 6, none⟩ u6).setCell ⟨g, 7, none⟩ u7) :=
  ((((((((Only.refl (· = g) w).store (p := ⟨g, 0, none⟩) (.inl rfl) _).store (p := ⟨g, 1, none⟩) (.inl rfl) _).store (p := ⟨g, 2, none⟩) (.inl rfl) _).store (p := ⟨g, 3, none⟩) (.inl rfl) _).store (p := ⟨g, 4, none⟩) (.inl rfl) _).store (p := ⟨g, 5, none⟩) (.inl rfl) _).store (p := ⟨g, 6, none⟩) (.inl rfl) _).store (p := ⟨g, 7, none⟩) (.inl rfl) _
theorem over8_below {B g : Nat} {W w : World} (h : Below B W w) (hg : B ≤ g) (hB : B ≤ w.heap.size) (u0 u1 u2 u3 u4 u5 u6 u7 : Value) : Below B W ((((((((w.setCell ⟨g, 0, none⟩ u0).setCell ⟨g, 1, none⟩ u1).setCell ⟨g, 2, none⟩ u2).setCell ⟨g, 3, none⟩ u3).setCell ⟨g, 4, none⟩ u4).setCell ⟨g, 5, none⟩ u5).setCell ⟨g, 6, none⟩ u6).setCell ⟨g, 7, none⟩ u7) := (over8_only w g u0 u1 u2 u3 u4 u5 u6 u7).below h hB (fun i e => by subst e; exact hg)
def kidOf (ts : List T) (j : Nat) : T := ts.getD j .emp
theorem kidOf_get {ts : List T} {j : Nat} (h : j < ts.length) : ts[j]? = some (kidOf ts j) := by
  unfold kidOf; rw [List.getD_eq_getElem?_getD, List.getElem?_eq_getElem h]; rfl
theorem kidOf_at {ts : List T} {j : Nat} {u : T} (h : ts[j]? = some u) : kidOf ts j = u := by
  unfold kidOf; rw [List.getD_eq_getElem?_getD, h]; rfl
theorem emO_any (ts : List T) : anyP (fun j => emQ (kidOf ts j)) ts.length = emO ts := by
  cases h : emO ts with
  | false => exact anyP_no (fun j hj => by
      cases e : emQ (kidOf ts j) with
      | false => rfl
      | true => rw [emO_stop (kidOf_get hj) e] at h; cases h)
  | true =>
    cases e : anyP (fun j => emQ (kidOf ts j)) ts.length with
    | true => rfl
    | false =>
      rw [emO_all (fun i u hi => by have := anyP_false e i (List.getElem?_eq_some_iff.1 hi).1; rwa [kidOf_at hi] at this)] at h
      cases h
theorem emA_any (ts : List T) : (!anyP (fun j => !emQ (kidOf ts j)) ts.length) = emA ts := by
  cases h : emA ts with
  | true => rw [anyP_no (fun j hj => by
      cases e : emQ (kidOf ts j) with
      | true => rfl
      | false => rw [emA_stop (kidOf_get hj) e] at h; cases h)]; rfl
  | false =>
    cases e : anyP (fun j => !emQ (kidOf ts j)) ts.length with
    | true => rfl
    | false =>
      rw [emA_all (fun i u hi => by have := anyP_false e i (List.getElem?_eq_some_iff.1 hi).1; rw [kidOf_at hi] at this; simpa using this)] at h
      cases h
theorem Not_of {A : Option Addr} {n c : Nat} {b : Bool} {w : World} (h : Calls Tryd.prog 24 #[.slice A n c] w fun e w' => e = .returned (.bool b) ∧ Below w.heap.size w w') :
    Calls Tryd.prog 37 #[.slice A n c] w fun e w' => e = .returned (.bool (!b)) ∧ Below w.heap.size w w' := by
  have H := Lib.hid h
  clear h
  go_enter Tryd.func37, Tryd.ntmps37
  go_wp2_with (go_at_call 24; refine H.out.mono ?_; rintro e w9 ⟨rfl, k9⟩; have K9 := Lib.hid k9; clear k9)
  go_ret
  exact ⟨rfl, K9.out⟩
theorem kidV.below {w w' : World} {L : List Value} {ts : List T} (h : kidV w L ts) (k : Below w.heap.size w w') : kidV w' L ts := ⟨h.1, fun j u hj => by
  obtain ⟨x, hx, hs⟩ := h.2 j u hj
  exact ⟨x, hx, hs.below k⟩⟩
/-- What is asked of each child. -/
def asks (ts : List T) : Prop := ∀ (j : Nat) u, ts[j]? = some u → ∀ w v, sl w v (enc u) → Calls Tryd.prog 24 #[v] w fun e w' => e = .returned (.bool (emQ u)) ∧ Below w.heap.size w w'
theorem asks_tests {ts : List T} {w : World} {L : List Value} (h : asks ts) (k : kidV w L ts) : tests 24 w L (fun j => emQ (kidOf ts j)) := fun j x hx => by
  have hj : j < ts.length := by rw [← k.1]; exact (List.getElem?_eq_some_iff.1 hx).1
  obtain ⟨x', hx', hs⟩ := k.2 j _ (kidOf_get hj)
  rw [hx] at hx'
  obtain rfl := Option.some.inj hx'
  refine ⟨?_, fun w' b => h j _ (kidOf_get hj) w' x (hs.below b)⟩
  obtain ⟨A, c, e, _⟩ := hs
  exact ⟨A, _, c, e⟩
theorem asks_not {ts : List T} {w : World} {L : List Value} (h : asks ts) (k : kidV w L ts) : tests 37 w L (fun j => !emQ (kidOf ts j)) := fun j x hx => by
  obtain ⟨⟨A, n, c, rfl⟩, h2⟩ := asks_tests h k j x hx
  exact ⟨⟨A, n, c, rfl⟩, fun w' b => Not_of (h2 w' b)⟩

set_option maxHeartbeats 4000000 in
set_option maxRecDepth 100000 in
theorem empty_all : ∀ (m : Nat) (t : T), (enc t).length ≤ m → (enc t).length ≤ 1000000 → ∀ (w : World) (v : Value), sl w v (enc t) →
    Calls Tryd.prog 24 #[v] w fun e w' => e = .returned (.bool (emQ t)) ∧ Below w.heap.size w w' := by
  intro m
  induction m with
  | zero => intro t hm; exact absurd hm (by have := enc_pos t; omega)
  | succ m ih =>
  intro t hm hN w v hv
  obtain ⟨A, cap, rfl, hcap, h⟩ := hv
  have HAsk : Hid (asks (kidsT t)) := Lib.hid (fun j u hu w v hs => ih u (by have := kid_less (List.mem_of_getElem? hu); omega) (by have := kid_less (List.mem_of_getElem? hu); omega) w v hs)
  have HKL : Hid ((kidsT t).length ≤ 1000000) := Lib.hid (by
    have h1 := encs_le (kidsT t)
    have h2 := congrArg List.length (enc_hd t)
    rw [List.length_cons] at h2
    omega)
  have HCh : Hid (∀ w', Below w.heap.size w w' → Calls Tryd.prog 27 #[.slice A (enc t).length cap] w' fun e w'' => ∃ v L, e = .returned v ∧ vs w'' w'.heap.size 22 v L ∧ kidV w L (kidsT t) ∧ Below w'.heap.size w' w'') := Lib.hid (fun w' b => children_any hN hcap (Lib.hid h) (Lib.hid b))
  obtain ⟨b, off, rfl, hb, hp⟩ := h _ _ (tat_zero t).node
  have hpos : (0 : Int) < ((enc t).length : Int) := by have := enc_pos t; omega
  have HCells : Hid (∀ w', Below w.heap.size w w' → nd1 w' b off (hd t)) := Lib.hid (fun w' k => by
    have := hp.below hb (k.mono (Nat.le_refl _))
    rwa [show off + 0 * 8 = off by omega] at this)
  obtain ⟨N, hN'⟩ : ∃ N, N = (enc t).length := ⟨_, rfl⟩
  rw [← hN'] at HCh hpos
  have hposN : 0 < N := by omega
  rw [← hN']
  clear h hm ih hp hb hN' hN hcap
  have hq0 := HCells.out w (Below.refl _ _)
  obtain ⟨x0, x1, x2, x3, hs, a2, a3, a4, a5⟩ := hq0.four
  have a0 := hq0.c0
  have a1 := hq0.c1
  have a6 := hq0.c6
  have a7 := hq0.c7
  have HS : Hid (∀ w', Below w.heap.size w w' → w'.cell? ⟨b, off, none⟩ = some (.int .i64 (hd t).k) ∧ w'.cell? ⟨b, off + 1, none⟩ = some (.int .i64 (hd t).n) ∧ w'.cell? ⟨b, off + 2, none⟩ = some (.int .u64 (x0 : Int)) ∧ w'.cell? ⟨b, off + 3, none⟩ = some (.int .u64 (x1 : Int)) ∧ w'.cell? ⟨b, off + 4, none⟩ = some (.int .u64 (x2 : Int)) ∧ w'.cell? ⟨b, off + 5, none⟩ = some (.int .u64 (x3 : Int)) ∧ w'.cell? ⟨b, off + 6, none⟩ = some (.int .i64 (hd t).lo) ∧ w'.cell? ⟨b, off + 7, none⟩ = some (.int .i64 (hd t).hi)) := Lib.hid (fun w' k => by
    have q := HCells.out w' k
    refine ⟨q.c0, q.c1, q.cs 0 x0 (by rw [hs]; rfl), q.cs 1 x1 (by rw [hs]; rfl), q.cs 2 x2 (by rw [hs]; rfl), q.cs 3 x3 (by rw [hs]; rfl), q.c6, q.c7⟩)
  clear hq0 hs HCells
  cases t with
  | set a =>
    dsimp only [hd, kidsT] at a0 a1 a6 a7 HS HCh HAsk HKL
    have RA : Blk (w.alloc (.cells #[.int .i64 0, .int .i64 0, .int .u64 0, .int .u64 0, .int .u64 0, .int .u64 0, .int .i64 0, .int .i64 0] 38)).drew w.heap.size 38 #[.int .i64 0, .int .i64 0, .int .u64 0, .int .u64 0, .int .u64 0, .int .u64 0, .int .i64 0, .int .i64 0] := Blk.fresh w _ _
    have BE : Below w.heap.size w (w.alloc (.cells #[.int .i64 0, .int .i64 0, .int .u64 0, .int .u64 0, .int .u64 0, .int .u64 0, .int .i64 0, .int .i64 0] 38)).drew := (below_alloc w _).drew
    have RB : Blk (w.alloc (.cells #[.int .i64 1, .int .i64 0, .int .u64 (x0 : Int), .int .u64 (x1 : Int), .int .u64 (x2 : Int), .int .u64 (x3 : Int), .int .i64 0, .int .i64 0] 38)).drew w.heap.size 38 #[.int .i64 1, .int .i64 0, .int .u64 (x0 : Int), .int .u64 (x1 : Int), .int .u64 (x2 : Int), .int .u64 (x3 : Int), .int .i64 0, .int .i64 0] := Blk.fresh w _ _
    have BF : Below w.heap.size w (w.alloc (.cells #[.int .i64 1, .int .i64 0, .int .u64 (x0 : Int), .int .u64 (x1 : Int), .int .u64 (x2 : Int), .int .u64 (x3 : Int), .int .i64 0, .int .i64 0] 38)).drew := (below_alloc w _).drew
    have HRB := Lib.hid RB
    have HBF := Lib.hid BF
    have HSA : Hid ((w.alloc (.cells #[.int .i64 0, .int .i64 0, .int .u64 0, .int .u64 0, .int .u64 0, .int .u64 0, .int .i64 0, .int .i64 0] 38)).drew.heap.size = w.heap.size + 1) := Lib.hid (size_alloc _ _)
    have HRA := Lib.hid RA
    have HBE := Lib.hid BE
    clear RA BE RB BF
    go_enter Tryd.func24, Tryd.ntmps24
    go_upto_region 1 with fail
    go_cut [3, 4] (fun s3 s4 wx => ∃ (g : Nat) (v : Value) (L : List Value), s3 = .pointer (some ⟨g, 0, none⟩) ∧ s4 = v ∧ Hid (Blk wx g 38 #[.int .i64 1, .int .i64 0, .int .u64 (x0 : Int), .int .u64 (x1 : Int), .int .u64 (x2 : Int), .int .u64 (x3 : Int), .int .i64 0, .int .i64 0]) ∧ Hid (∃ base, vs wx base 22 v L) ∧ Hid (kidV w L []) ∧ Hid (Below w.heap.size w wx))
    case first =>
      have KD := And.intro (HS.out w.drew (below_draws w 1)) (below_draws w 1)
      obtain ⟨⟨b0, b1, b2, b3, b4, b5, b6, b7⟩, bd⟩ := KD
      go_region_held3 (fun u => u.cell? ⟨b, off, none⟩ = some (.int .i64 1) ∧ u.cell? ⟨b, off + 1, none⟩ = some (.int .i64 0) ∧ u.cell? ⟨b, off + 2, none⟩ = some (.int .u64 (x0 : Int)) ∧ u.cell? ⟨b, off + 3, none⟩ = some (.int .u64 (x1 : Int)) ∧ u.cell? ⟨b, off + 4, none⟩ = some (.int .u64 (x2 : Int)) ∧ u.cell? ⟨b, off + 5, none⟩ = some (.int .u64 (x3 : Int)) ∧ u.cell? ⟨b, off + 6, none⟩ = some (.int .i64 0) ∧ u.cell? ⟨b, off + 7, none⟩ = some (.int .i64 0) ∧ Below w.heap.size w u)
        (first | (with_reducible exact and9 (HS.out _ HBE.out) HBE.out) | (with_reducible exact and9 (HS.out _ HBF.out) HBF.out) | (with_reducible exact and9 (HS.out _ (KB1.alloc KB1.size _)) (KB1.alloc KB1.size _)) | (with_reducible exact and9 (HS.out _ (over8_below KB1 (Nat.le_refl _) KB1.size (.int .i64 1) (.int .i64 0) (.int .u64 (x0 : Int)) (.int .u64 (x1 : Int)) (.int .u64 (x2 : Int)) (.int .u64 (x3 : Int)) (.int .i64 0) (.int .i64 0))) (over8_below KB1 (Nat.le_refl _) KB1.size (.int .i64 1) (.int .i64 0) (.int .u64 (x0 : Int)) (.int .u64 (x1 : Int)) (.int .u64 (x2 : Int)) (.int .u64 (x3 : Int)) (.int .i64 0) (.int .i64 0))) | (exact ⟨b0, b1, b2, b3, b4, b5, b6, b7, bd⟩) | (exact ⟨c0, c1, c2, c3, c4, c5, c6, c7, KB1⟩) | assumption)
        (first | (go_at_call 27; refine (HCh.out _ (by first | (with_reducible exact bd) | (with_reducible exact HBE.out) | (with_reducible exact HBF.out) | exact below_draws w 1)).mono ?_; rintro e w1 ⟨v1, L1, rfl, hv1, hk1, k1⟩; have KB1 := grows (show Below w.heap.size w _ by first | (with_reducible exact bd) | (with_reducible exact HBE.out) | (with_reducible exact HBF.out) | exact below_draws w 1) k1; obtain ⟨c0, c1, c2, c3, c4, c5, c6, c7⟩ := HS.out w1 KB1; have HV1 := Lib.hid hv1; have HK1 := Lib.hid hk1; have HK9 := Lib.hid k1; clear hv1 hk1; try (obtain ⟨⟨r0, r1, r2, r3, r4, r5, r6, r7⟩, f0, f1, f2, f3, f4, f5, f6, f7⟩ := eight_blk (Blk.below HRA.out k1)); clear k1))
      all_goals
        simp only [Exit.then]
        go_wp2
        go_meet
        first
        | (with_reducible exact ⟨_, _, L1, rfl, rfl, Lib.hid (Blk.fresh w1 _ _), Lib.hid ⟨_, HV1.out.below (below_alloc w1 _)⟩, HK1, Lib.hid (KB1.alloc KB1.size _)⟩)
        | (with_reducible exact ⟨_, _, L1, rfl, rfl, Lib.hid (Blk.below HRB.out HK9.out), Lib.hid ⟨_, HV1.out⟩, HK1, Lib.hid KB1⟩)
        | (with_reducible exact ⟨_, _, L1, rfl, rfl, Lib.hid (over8_blk (Blk.below HRA.out HK9.out) (.int .i64 1) (.int .i64 0) (.int .u64 (x0 : Int)) (.int .u64 (x1 : Int)) (.int .u64 (x2 : Int)) (.int .u64 (x3 : Int)) (.int .i64 0) (.int .i64 0)), Lib.hid ⟨_, HV1.out.only (over8_only w1 w.heap.size (.int .i64 1) (.int .i64 0) (.int .u64 (x0 : Int)) (.int .u64 (x1 : Int)) (.int .u64 (x2 : Int)) (.int .u64 (x3 : Int)) (.int .i64 0) (.int .i64 0)) (fun i hi e => by have h1 := HV1.out.lo i hi; have h2 := HSA.out; omega)⟩, HK1, Lib.hid (over8_below KB1 (Nat.le_refl _) KB1.size (.int .i64 1) (.int .i64 0) (.int .u64 (x0 : Int)) (.int .u64 (x1 : Int)) (.int .u64 (x2 : Int)) (.int .u64 (x3 : Int)) (.int .i64 0) (.int .i64 0))⟩)
    case rest =>
      obtain ⟨g, v, L, rfl, rfl, HR, HVV, HK, HB⟩ := hcut
      obtain ⟨⟨r0, r1, r2, r3, r4, r5, r6, r7⟩, _⟩ := eight_blk HR.out
      obtain ⟨bs, hvs⟩ := HVV.out
      have HVS := Lib.hid hvs
      have HKC := Lib.hid (kidV.below HK.out HB.out)
      obtain ⟨AV, CV, hav, _⟩ := hvs.le
      subst hav
      rw [HKC.out.1] at HVS ⊢
      clear hvs HVV HK HCh HS HRA HBE HRB HBF
      generalize wc = wc at *
      go_wp2
      go_ret
      exact ⟨retB (show false = _ by simp [emQ]), HB.out⟩
  | emp =>
    dsimp only [hd, kidsT] at a0 a1 a6 a7 HS HCh HAsk HKL
    have RA : Blk (w.alloc (.cells #[.int .i64 0, .int .i64 0, .int .u64 0, .int .u64 0, .int .u64 0, .int .u64 0, .int .i64 0, .int .i64 0] 38)).drew w.heap.size 38 #[.int .i64 0, .int .i64 0, .int .u64 0, .int .u64 0, .int .u64 0, .int .u64 0, .int .i64 0, .int .i64 0] := Blk.fresh w _ _
    have BE : Below w.heap.size w (w.alloc (.cells #[.int .i64 0, .int .i64 0, .int .u64 0, .int .u64 0, .int .u64 0, .int .u64 0, .int .i64 0, .int .i64 0] 38)).drew := (below_alloc w _).drew
    have RB : Blk (w.alloc (.cells #[.int .i64 2, .int .i64 0, .int .u64 (x0 : Int), .int .u64 (x1 : Int), .int .u64 (x2 : Int), .int .u64 (x3 : Int), .int .i64 0, .int .i64 0] 38)).drew w.heap.size 38 #[.int .i64 2, .int .i64 0, .int .u64 (x0 : Int), .int .u64 (x1 : Int), .int .u64 (x2 : Int), .int .u64 (x3 : Int), .int .i64 0, .int .i64 0] := Blk.fresh w _ _
    have BF : Below w.heap.size w (w.alloc (.cells #[.int .i64 2, .int .i64 0, .int .u64 (x0 : Int), .int .u64 (x1 : Int), .int .u64 (x2 : Int), .int .u64 (x3 : Int), .int .i64 0, .int .i64 0] 38)).drew := (below_alloc w _).drew
    have HRB := Lib.hid RB
    have HBF := Lib.hid BF
    have HSA : Hid ((w.alloc (.cells #[.int .i64 0, .int .i64 0, .int .u64 0, .int .u64 0, .int .u64 0, .int .u64 0, .int .i64 0, .int .i64 0] 38)).drew.heap.size = w.heap.size + 1) := Lib.hid (size_alloc _ _)
    have HRA := Lib.hid RA
    have HBE := Lib.hid BE
    clear RA BE RB BF
    go_enter Tryd.func24, Tryd.ntmps24
    go_upto_region 1 with fail
    go_cut [3, 4] (fun s3 s4 wx => ∃ (g : Nat) (v : Value) (L : List Value), s3 = .pointer (some ⟨g, 0, none⟩) ∧ s4 = v ∧ Hid (Blk wx g 38 #[.int .i64 2, .int .i64 0, .int .u64 (x0 : Int), .int .u64 (x1 : Int), .int .u64 (x2 : Int), .int .u64 (x3 : Int), .int .i64 0, .int .i64 0]) ∧ Hid (∃ base, vs wx base 22 v L) ∧ Hid (kidV w L []) ∧ Hid (Below w.heap.size w wx))
    case first =>
      have KD := And.intro (HS.out w.drew (below_draws w 1)) (below_draws w 1)
      obtain ⟨⟨b0, b1, b2, b3, b4, b5, b6, b7⟩, bd⟩ := KD
      go_region_held3 (fun u => u.cell? ⟨b, off, none⟩ = some (.int .i64 2) ∧ u.cell? ⟨b, off + 1, none⟩ = some (.int .i64 0) ∧ u.cell? ⟨b, off + 2, none⟩ = some (.int .u64 (x0 : Int)) ∧ u.cell? ⟨b, off + 3, none⟩ = some (.int .u64 (x1 : Int)) ∧ u.cell? ⟨b, off + 4, none⟩ = some (.int .u64 (x2 : Int)) ∧ u.cell? ⟨b, off + 5, none⟩ = some (.int .u64 (x3 : Int)) ∧ u.cell? ⟨b, off + 6, none⟩ = some (.int .i64 0) ∧ u.cell? ⟨b, off + 7, none⟩ = some (.int .i64 0) ∧ Below w.heap.size w u)
        (first | (with_reducible exact and9 (HS.out _ HBE.out) HBE.out) | (with_reducible exact and9 (HS.out _ HBF.out) HBF.out) | (with_reducible exact and9 (HS.out _ (KB1.alloc KB1.size _)) (KB1.alloc KB1.size _)) | (with_reducible exact and9 (HS.out _ (over8_below KB1 (Nat.le_refl _) KB1.size (.int .i64 2) (.int .i64 0) (.int .u64 (x0 : Int)) (.int .u64 (x1 : Int)) (.int .u64 (x2 : Int)) (.int .u64 (x3 : Int)) (.int .i64 0) (.int .i64 0))) (over8_below KB1 (Nat.le_refl _) KB1.size (.int .i64 2) (.int .i64 0) (.int .u64 (x0 : Int)) (.int .u64 (x1 : Int)) (.int .u64 (x2 : Int)) (.int .u64 (x3 : Int)) (.int .i64 0) (.int .i64 0))) | (exact ⟨b0, b1, b2, b3, b4, b5, b6, b7, bd⟩) | (exact ⟨c0, c1, c2, c3, c4, c5, c6, c7, KB1⟩) | assumption)
        (first | (go_at_call 27; refine (HCh.out _ (by first | (with_reducible exact bd) | (with_reducible exact HBE.out) | (with_reducible exact HBF.out) | exact below_draws w 1)).mono ?_; rintro e w1 ⟨v1, L1, rfl, hv1, hk1, k1⟩; have KB1 := grows (show Below w.heap.size w _ by first | (with_reducible exact bd) | (with_reducible exact HBE.out) | (with_reducible exact HBF.out) | exact below_draws w 1) k1; obtain ⟨c0, c1, c2, c3, c4, c5, c6, c7⟩ := HS.out w1 KB1; have HV1 := Lib.hid hv1; have HK1 := Lib.hid hk1; have HK9 := Lib.hid k1; clear hv1 hk1; try (obtain ⟨⟨r0, r1, r2, r3, r4, r5, r6, r7⟩, f0, f1, f2, f3, f4, f5, f6, f7⟩ := eight_blk (Blk.below HRA.out k1)); clear k1))
      all_goals
        simp only [Exit.then]
        go_wp2
        go_meet
        first
        | (with_reducible exact ⟨_, _, L1, rfl, rfl, Lib.hid (Blk.fresh w1 _ _), Lib.hid ⟨_, HV1.out.below (below_alloc w1 _)⟩, HK1, Lib.hid (KB1.alloc KB1.size _)⟩)
        | (with_reducible exact ⟨_, _, L1, rfl, rfl, Lib.hid (Blk.below HRB.out HK9.out), Lib.hid ⟨_, HV1.out⟩, HK1, Lib.hid KB1⟩)
        | (with_reducible exact ⟨_, _, L1, rfl, rfl, Lib.hid (over8_blk (Blk.below HRA.out HK9.out) (.int .i64 2) (.int .i64 0) (.int .u64 (x0 : Int)) (.int .u64 (x1 : Int)) (.int .u64 (x2 : Int)) (.int .u64 (x3 : Int)) (.int .i64 0) (.int .i64 0)), Lib.hid ⟨_, HV1.out.only (over8_only w1 w.heap.size (.int .i64 2) (.int .i64 0) (.int .u64 (x0 : Int)) (.int .u64 (x1 : Int)) (.int .u64 (x2 : Int)) (.int .u64 (x3 : Int)) (.int .i64 0) (.int .i64 0)) (fun i hi e => by have h1 := HV1.out.lo i hi; have h2 := HSA.out; omega)⟩, HK1, Lib.hid (over8_below KB1 (Nat.le_refl _) KB1.size (.int .i64 2) (.int .i64 0) (.int .u64 (x0 : Int)) (.int .u64 (x1 : Int)) (.int .u64 (x2 : Int)) (.int .u64 (x3 : Int)) (.int .i64 0) (.int .i64 0))⟩)
    case rest =>
      obtain ⟨g, v, L, rfl, rfl, HR, HVV, HK, HB⟩ := hcut
      obtain ⟨⟨r0, r1, r2, r3, r4, r5, r6, r7⟩, _⟩ := eight_blk HR.out
      obtain ⟨bs, hvs⟩ := HVV.out
      have HVS := Lib.hid hvs
      have HKC := Lib.hid (kidV.below HK.out HB.out)
      obtain ⟨AV, CV, hav, _⟩ := hvs.le
      subst hav
      rw [HKC.out.1] at HVS ⊢
      clear hvs HVV HK HCh HS HRA HBE HRB HBF
      generalize wc = wc at *
      go_wp2
      go_ret
      exact ⟨retB (show true = _ by simp [emQ]), HB.out⟩
  | cat ts =>
    dsimp only [hd, kidsT] at a0 a1 a6 a7 HS HCh HAsk HKL
    have RA : Blk (w.alloc (.cells #[.int .i64 0, .int .i64 0, .int .u64 0, .int .u64 0, .int .u64 0, .int .u64 0, .int .i64 0, .int .i64 0] 38)).drew w.heap.size 38 #[.int .i64 0, .int .i64 0, .int .u64 0, .int .u64 0, .int .u64 0, .int .u64 0, .int .i64 0, .int .i64 0] := Blk.fresh w _ _
    have BE : Below w.heap.size w (w.alloc (.cells #[.int .i64 0, .int .i64 0, .int .u64 0, .int .u64 0, .int .u64 0, .int .u64 0, .int .i64 0, .int .i64 0] 38)).drew := (below_alloc w _).drew
    have RB : Blk (w.alloc (.cells #[.int .i64 3, .int .i64 (ts.length : Int), .int .u64 (x0 : Int), .int .u64 (x1 : Int), .int .u64 (x2 : Int), .int .u64 (x3 : Int), .int .i64 0, .int .i64 0] 38)).drew w.heap.size 38 #[.int .i64 3, .int .i64 (ts.length : Int), .int .u64 (x0 : Int), .int .u64 (x1 : Int), .int .u64 (x2 : Int), .int .u64 (x3 : Int), .int .i64 0, .int .i64 0] := Blk.fresh w _ _
    have BF : Below w.heap.size w (w.alloc (.cells #[.int .i64 3, .int .i64 (ts.length : Int), .int .u64 (x0 : Int), .int .u64 (x1 : Int), .int .u64 (x2 : Int), .int .u64 (x3 : Int), .int .i64 0, .int .i64 0] 38)).drew := (below_alloc w _).drew
    have HRB := Lib.hid RB
    have HBF := Lib.hid BF
    have HSA : Hid ((w.alloc (.cells #[.int .i64 0, .int .i64 0, .int .u64 0, .int .u64 0, .int .u64 0, .int .u64 0, .int .i64 0, .int .i64 0] 38)).drew.heap.size = w.heap.size + 1) := Lib.hid (size_alloc _ _)
    have HRA := Lib.hid RA
    have HBE := Lib.hid BE
    clear RA BE RB BF
    go_enter Tryd.func24, Tryd.ntmps24
    go_upto_region 1 with fail
    go_cut [3, 4] (fun s3 s4 wx => ∃ (g : Nat) (v : Value) (L : List Value), s3 = .pointer (some ⟨g, 0, none⟩) ∧ s4 = v ∧ Hid (Blk wx g 38 #[.int .i64 3, .int .i64 (ts.length : Int), .int .u64 (x0 : Int), .int .u64 (x1 : Int), .int .u64 (x2 : Int), .int .u64 (x3 : Int), .int .i64 0, .int .i64 0]) ∧ Hid (∃ base, vs wx base 22 v L) ∧ Hid (kidV w L ts) ∧ Hid (Below w.heap.size w wx))
    case first =>
      have KD := And.intro (HS.out w.drew (below_draws w 1)) (below_draws w 1)
      obtain ⟨⟨b0, b1, b2, b3, b4, b5, b6, b7⟩, bd⟩ := KD
      go_region_held3 (fun u => u.cell? ⟨b, off, none⟩ = some (.int .i64 3) ∧ u.cell? ⟨b, off + 1, none⟩ = some (.int .i64 (ts.length : Int)) ∧ u.cell? ⟨b, off + 2, none⟩ = some (.int .u64 (x0 : Int)) ∧ u.cell? ⟨b, off + 3, none⟩ = some (.int .u64 (x1 : Int)) ∧ u.cell? ⟨b, off + 4, none⟩ = some (.int .u64 (x2 : Int)) ∧ u.cell? ⟨b, off + 5, none⟩ = some (.int .u64 (x3 : Int)) ∧ u.cell? ⟨b, off + 6, none⟩ = some (.int .i64 0) ∧ u.cell? ⟨b, off + 7, none⟩ = some (.int .i64 0) ∧ Below w.heap.size w u)
        (first | (with_reducible exact and9 (HS.out _ HBE.out) HBE.out) | (with_reducible exact and9 (HS.out _ HBF.out) HBF.out) | (with_reducible exact and9 (HS.out _ (KB1.alloc KB1.size _)) (KB1.alloc KB1.size _)) | (with_reducible exact and9 (HS.out _ (over8_below KB1 (Nat.le_refl _) KB1.size (.int .i64 3) (.int .i64 (ts.length : Int)) (.int .u64 (x0 : Int)) (.int .u64 (x1 : Int)) (.int .u64 (x2 : Int)) (.int .u64 (x3 : Int)) (.int .i64 0) (.int .i64 0))) (over8_below KB1 (Nat.le_refl _) KB1.size (.int .i64 3) (.int .i64 (ts.length : Int)) (.int .u64 (x0 : Int)) (.int .u64 (x1 : Int)) (.int .u64 (x2 : Int)) (.int .u64 (x3 : Int)) (.int .i64 0) (.int .i64 0))) | (exact ⟨b0, b1, b2, b3, b4, b5, b6, b7, bd⟩) | (exact ⟨c0, c1, c2, c3, c4, c5, c6, c7, KB1⟩) | assumption)
        (first | (go_at_call 27; refine (HCh.out _ (by first | (with_reducible exact bd) | (with_reducible exact HBE.out) | (with_reducible exact HBF.out) | exact below_draws w 1)).mono ?_; rintro e w1 ⟨v1, L1, rfl, hv1, hk1, k1⟩; have KB1 := grows (show Below w.heap.size w _ by first | (with_reducible exact bd) | (with_reducible exact HBE.out) | (with_reducible exact HBF.out) | exact below_draws w 1) k1; obtain ⟨c0, c1, c2, c3, c4, c5, c6, c7⟩ := HS.out w1 KB1; have HV1 := Lib.hid hv1; have HK1 := Lib.hid hk1; have HK9 := Lib.hid k1; clear hv1 hk1; try (obtain ⟨⟨r0, r1, r2, r3, r4, r5, r6, r7⟩, f0, f1, f2, f3, f4, f5, f6, f7⟩ := eight_blk (Blk.below HRA.out k1)); clear k1))
      all_goals
        simp only [Exit.then]
        go_wp2
        go_meet
        first
        | (with_reducible exact ⟨_, _, L1, rfl, rfl, Lib.hid (Blk.fresh w1 _ _), Lib.hid ⟨_, HV1.out.below (below_alloc w1 _)⟩, HK1, Lib.hid (KB1.alloc KB1.size _)⟩)
        | (with_reducible exact ⟨_, _, L1, rfl, rfl, Lib.hid (Blk.below HRB.out HK9.out), Lib.hid ⟨_, HV1.out⟩, HK1, Lib.hid KB1⟩)
        | (with_reducible exact ⟨_, _, L1, rfl, rfl, Lib.hid (over8_blk (Blk.below HRA.out HK9.out) (.int .i64 3) (.int .i64 (ts.length : Int)) (.int .u64 (x0 : Int)) (.int .u64 (x1 : Int)) (.int .u64 (x2 : Int)) (.int .u64 (x3 : Int)) (.int .i64 0) (.int .i64 0)), Lib.hid ⟨_, HV1.out.only (over8_only w1 w.heap.size (.int .i64 3) (.int .i64 (ts.length : Int)) (.int .u64 (x0 : Int)) (.int .u64 (x1 : Int)) (.int .u64 (x2 : Int)) (.int .u64 (x3 : Int)) (.int .i64 0) (.int .i64 0)) (fun i hi e => by have h1 := HV1.out.lo i hi; have h2 := HSA.out; omega)⟩, HK1, Lib.hid (over8_below KB1 (Nat.le_refl _) KB1.size (.int .i64 3) (.int .i64 (ts.length : Int)) (.int .u64 (x0 : Int)) (.int .u64 (x1 : Int)) (.int .u64 (x2 : Int)) (.int .u64 (x3 : Int)) (.int .i64 0) (.int .i64 0))⟩)
    case rest =>
      obtain ⟨g, v, L, rfl, rfl, HR, HVV, HK, HB⟩ := hcut
      obtain ⟨⟨r0, r1, r2, r3, r4, r5, r6, r7⟩, _⟩ := eight_blk HR.out
      obtain ⟨bs, hvs⟩ := HVV.out
      have HVS := Lib.hid hvs
      have HKC := Lib.hid (kidV.below HK.out HB.out)
      obtain ⟨AV, CV, hav, _⟩ := hvs.le
      subst hav
      rw [HKC.out.1] at HVS ⊢
      clear hvs HVV HK HCh HS HRA HBE HRB HBF
      generalize wc = wc at *
      have HC := Lib.hid (Contains_emptyNot (v := .slice AV ts.length CV) HVS (Lib.hid (asks_not HAsk.out HKC.out)) (by rw [HKC.out.1]; exact HKL.out))
      rw [HKC.out.1] at HC
      obtain ⟨R, hR⟩ : ∃ R, R = anyP (fun j => !emQ (kidOf ts j)) ts.length := ⟨_, rfl⟩
      have HR2 : Hid (emQ (.cat ts) = !R) := Lib.hid (by rw [hR, emA_any, emQ])
      rw [← hR] at HC
      clear hR
      go_wp2_with (go_at_call 36; refine HC.out.mono ?_; rintro e w9 ⟨rfl, k9⟩; have K9 := Lib.hid k9; clear k9)
      go_ret
      exact ⟨retB HR2.out.symm, grows HB.out K9.out⟩
  | alt ts =>
    dsimp only [hd, kidsT] at a0 a1 a6 a7 HS HCh HAsk HKL
    have RA : Blk (w.alloc (.cells #[.int .i64 0, .int .i64 0, .int .u64 0, .int .u64 0, .int .u64 0, .int .u64 0, .int .i64 0, .int .i64 0] 38)).drew w.heap.size 38 #[.int .i64 0, .int .i64 0, .int .u64 0, .int .u64 0, .int .u64 0, .int .u64 0, .int .i64 0, .int .i64 0] := Blk.fresh w _ _
    have BE : Below w.heap.size w (w.alloc (.cells #[.int .i64 0, .int .i64 0, .int .u64 0, .int .u64 0, .int .u64 0, .int .u64 0, .int .i64 0, .int .i64 0] 38)).drew := (below_alloc w _).drew
    have RB : Blk (w.alloc (.cells #[.int .i64 4, .int .i64 (ts.length : Int), .int .u64 (x0 : Int), .int .u64 (x1 : Int), .int .u64 (x2 : Int), .int .u64 (x3 : Int), .int .i64 0, .int .i64 0] 38)).drew w.heap.size 38 #[.int .i64 4, .int .i64 (ts.length : Int), .int .u64 (x0 : Int), .int .u64 (x1 : Int), .int .u64 (x2 : Int), .int .u64 (x3 : Int), .int .i64 0, .int .i64 0] := Blk.fresh w _ _
    have BF : Below w.heap.size w (w.alloc (.cells #[.int .i64 4, .int .i64 (ts.length : Int), .int .u64 (x0 : Int), .int .u64 (x1 : Int), .int .u64 (x2 : Int), .int .u64 (x3 : Int), .int .i64 0, .int .i64 0] 38)).drew := (below_alloc w _).drew
    have HRB := Lib.hid RB
    have HBF := Lib.hid BF
    have HSA : Hid ((w.alloc (.cells #[.int .i64 0, .int .i64 0, .int .u64 0, .int .u64 0, .int .u64 0, .int .u64 0, .int .i64 0, .int .i64 0] 38)).drew.heap.size = w.heap.size + 1) := Lib.hid (size_alloc _ _)
    have HRA := Lib.hid RA
    have HBE := Lib.hid BE
    clear RA BE RB BF
    go_enter Tryd.func24, Tryd.ntmps24
    go_upto_region 1 with fail
    go_cut [3, 4] (fun s3 s4 wx => ∃ (g : Nat) (v : Value) (L : List Value), s3 = .pointer (some ⟨g, 0, none⟩) ∧ s4 = v ∧ Hid (Blk wx g 38 #[.int .i64 4, .int .i64 (ts.length : Int), .int .u64 (x0 : Int), .int .u64 (x1 : Int), .int .u64 (x2 : Int), .int .u64 (x3 : Int), .int .i64 0, .int .i64 0]) ∧ Hid (∃ base, vs wx base 22 v L) ∧ Hid (kidV w L ts) ∧ Hid (Below w.heap.size w wx))
    case first =>
      have KD := And.intro (HS.out w.drew (below_draws w 1)) (below_draws w 1)
      obtain ⟨⟨b0, b1, b2, b3, b4, b5, b6, b7⟩, bd⟩ := KD
      go_region_held3 (fun u => u.cell? ⟨b, off, none⟩ = some (.int .i64 4) ∧ u.cell? ⟨b, off + 1, none⟩ = some (.int .i64 (ts.length : Int)) ∧ u.cell? ⟨b, off + 2, none⟩ = some (.int .u64 (x0 : Int)) ∧ u.cell? ⟨b, off + 3, none⟩ = some (.int .u64 (x1 : Int)) ∧ u.cell? ⟨b, off + 4, none⟩ = some (.int .u64 (x2 : Int)) ∧ u.cell? ⟨b, off + 5, none⟩ = some (.int .u64 (x3 : Int)) ∧ u.cell? ⟨b, off + 6, none⟩ = some (.int .i64 0) ∧ u.cell? ⟨b, off + 7, none⟩ = some (.int .i64 0) ∧ Below w.heap.size w u)
        (first | (with_reducible exact and9 (HS.out _ HBE.out) HBE.out) | (with_reducible exact and9 (HS.out _ HBF.out) HBF.out) | (with_reducible exact and9 (HS.out _ (KB1.alloc KB1.size _)) (KB1.alloc KB1.size _)) | (with_reducible exact and9 (HS.out _ (over8_below KB1 (Nat.le_refl _) KB1.size (.int .i64 4) (.int .i64 (ts.length : Int)) (.int .u64 (x0 : Int)) (.int .u64 (x1 : Int)) (.int .u64 (x2 : Int)) (.int .u64 (x3 : Int)) (.int .i64 0) (.int .i64 0))) (over8_below KB1 (Nat.le_refl _) KB1.size (.int .i64 4) (.int .i64 (ts.length : Int)) (.int .u64 (x0 : Int)) (.int .u64 (x1 : Int)) (.int .u64 (x2 : Int)) (.int .u64 (x3 : Int)) (.int .i64 0) (.int .i64 0))) | (exact ⟨b0, b1, b2, b3, b4, b5, b6, b7, bd⟩) | (exact ⟨c0, c1, c2, c3, c4, c5, c6, c7, KB1⟩) | assumption)
        (first | (go_at_call 27; refine (HCh.out _ (by first | (with_reducible exact bd) | (with_reducible exact HBE.out) | (with_reducible exact HBF.out) | exact below_draws w 1)).mono ?_; rintro e w1 ⟨v1, L1, rfl, hv1, hk1, k1⟩; have KB1 := grows (show Below w.heap.size w _ by first | (with_reducible exact bd) | (with_reducible exact HBE.out) | (with_reducible exact HBF.out) | exact below_draws w 1) k1; obtain ⟨c0, c1, c2, c3, c4, c5, c6, c7⟩ := HS.out w1 KB1; have HV1 := Lib.hid hv1; have HK1 := Lib.hid hk1; have HK9 := Lib.hid k1; clear hv1 hk1; try (obtain ⟨⟨r0, r1, r2, r3, r4, r5, r6, r7⟩, f0, f1, f2, f3, f4, f5, f6, f7⟩ := eight_blk (Blk.below HRA.out k1)); clear k1))
      all_goals
        simp only [Exit.then]
        go_wp2
        go_meet
        first
        | (with_reducible exact ⟨_, _, L1, rfl, rfl, Lib.hid (Blk.fresh w1 _ _), Lib.hid ⟨_, HV1.out.below (below_alloc w1 _)⟩, HK1, Lib.hid (KB1.alloc KB1.size _)⟩)
        | (with_reducible exact ⟨_, _, L1, rfl, rfl, Lib.hid (Blk.below HRB.out HK9.out), Lib.hid ⟨_, HV1.out⟩, HK1, Lib.hid KB1⟩)
        | (with_reducible exact ⟨_, _, L1, rfl, rfl, Lib.hid (over8_blk (Blk.below HRA.out HK9.out) (.int .i64 4) (.int .i64 (ts.length : Int)) (.int .u64 (x0 : Int)) (.int .u64 (x1 : Int)) (.int .u64 (x2 : Int)) (.int .u64 (x3 : Int)) (.int .i64 0) (.int .i64 0)), Lib.hid ⟨_, HV1.out.only (over8_only w1 w.heap.size (.int .i64 4) (.int .i64 (ts.length : Int)) (.int .u64 (x0 : Int)) (.int .u64 (x1 : Int)) (.int .u64 (x2 : Int)) (.int .u64 (x3 : Int)) (.int .i64 0) (.int .i64 0)) (fun i hi e => by have h1 := HV1.out.lo i hi; have h2 := HSA.out; omega)⟩, HK1, Lib.hid (over8_below KB1 (Nat.le_refl _) KB1.size (.int .i64 4) (.int .i64 (ts.length : Int)) (.int .u64 (x0 : Int)) (.int .u64 (x1 : Int)) (.int .u64 (x2 : Int)) (.int .u64 (x3 : Int)) (.int .i64 0) (.int .i64 0))⟩)
    case rest =>
      obtain ⟨g, v, L, rfl, rfl, HR, HVV, HK, HB⟩ := hcut
      obtain ⟨⟨r0, r1, r2, r3, r4, r5, r6, r7⟩, _⟩ := eight_blk HR.out
      obtain ⟨bs, hvs⟩ := HVV.out
      have HVS := Lib.hid hvs
      have HKC := Lib.hid (kidV.below HK.out HB.out)
      obtain ⟨AV, CV, hav, _⟩ := hvs.le
      subst hav
      rw [HKC.out.1] at HVS ⊢
      clear hvs HVV HK HCh HS HRA HBE HRB HBF
      generalize wc = wc at *
      have HC := Lib.hid (Contains_empty (v := .slice AV ts.length CV) HVS (Lib.hid (asks_tests HAsk.out HKC.out)) (by rw [HKC.out.1]; exact HKL.out))
      rw [HKC.out.1] at HC
      obtain ⟨R, hR⟩ : ∃ R, R = anyP (fun j => emQ (kidOf ts j)) ts.length := ⟨_, rfl⟩
      have HR2 : Hid (emQ (.alt ts) = R) := Lib.hid (by rw [hR, emO_any, emQ])
      rw [← hR] at HC
      clear hR
      go_wp2_with (go_at_call 36; refine HC.out.mono ?_; rintro e w9 ⟨rfl, k9⟩; have K9 := Lib.hid k9; clear k9)
      go_ret
      exact ⟨retB HR2.out.symm, grows HB.out K9.out⟩
  | star u =>
    dsimp only [hd, kidsT] at a0 a1 a6 a7 HS HCh HAsk HKL
    have RA : Blk (w.alloc (.cells #[.int .i64 0, .int .i64 0, .int .u64 0, .int .u64 0, .int .u64 0, .int .u64 0, .int .i64 0, .int .i64 0] 38)).drew w.heap.size 38 #[.int .i64 0, .int .i64 0, .int .u64 0, .int .u64 0, .int .u64 0, .int .u64 0, .int .i64 0, .int .i64 0] := Blk.fresh w _ _
    have BE : Below w.heap.size w (w.alloc (.cells #[.int .i64 0, .int .i64 0, .int .u64 0, .int .u64 0, .int .u64 0, .int .u64 0, .int .i64 0, .int .i64 0] 38)).drew := (below_alloc w _).drew
    have RB : Blk (w.alloc (.cells #[.int .i64 5, .int .i64 1, .int .u64 (x0 : Int), .int .u64 (x1 : Int), .int .u64 (x2 : Int), .int .u64 (x3 : Int), .int .i64 0, .int .i64 0] 38)).drew w.heap.size 38 #[.int .i64 5, .int .i64 1, .int .u64 (x0 : Int), .int .u64 (x1 : Int), .int .u64 (x2 : Int), .int .u64 (x3 : Int), .int .i64 0, .int .i64 0] := Blk.fresh w _ _
    have BF : Below w.heap.size w (w.alloc (.cells #[.int .i64 5, .int .i64 1, .int .u64 (x0 : Int), .int .u64 (x1 : Int), .int .u64 (x2 : Int), .int .u64 (x3 : Int), .int .i64 0, .int .i64 0] 38)).drew := (below_alloc w _).drew
    have HRB := Lib.hid RB
    have HBF := Lib.hid BF
    have HSA : Hid ((w.alloc (.cells #[.int .i64 0, .int .i64 0, .int .u64 0, .int .u64 0, .int .u64 0, .int .u64 0, .int .i64 0, .int .i64 0] 38)).drew.heap.size = w.heap.size + 1) := Lib.hid (size_alloc _ _)
    have HRA := Lib.hid RA
    have HBE := Lib.hid BE
    clear RA BE RB BF
    go_enter Tryd.func24, Tryd.ntmps24
    go_upto_region 1 with fail
    go_cut [3, 4] (fun s3 s4 wx => ∃ (g : Nat) (v : Value) (L : List Value), s3 = .pointer (some ⟨g, 0, none⟩) ∧ s4 = v ∧ Hid (Blk wx g 38 #[.int .i64 5, .int .i64 1, .int .u64 (x0 : Int), .int .u64 (x1 : Int), .int .u64 (x2 : Int), .int .u64 (x3 : Int), .int .i64 0, .int .i64 0]) ∧ Hid (∃ base, vs wx base 22 v L) ∧ Hid (kidV w L [u]) ∧ Hid (Below w.heap.size w wx))
    case first =>
      have KD := And.intro (HS.out w.drew (below_draws w 1)) (below_draws w 1)
      obtain ⟨⟨b0, b1, b2, b3, b4, b5, b6, b7⟩, bd⟩ := KD
      go_region_held3 (fun u => u.cell? ⟨b, off, none⟩ = some (.int .i64 5) ∧ u.cell? ⟨b, off + 1, none⟩ = some (.int .i64 1) ∧ u.cell? ⟨b, off + 2, none⟩ = some (.int .u64 (x0 : Int)) ∧ u.cell? ⟨b, off + 3, none⟩ = some (.int .u64 (x1 : Int)) ∧ u.cell? ⟨b, off + 4, none⟩ = some (.int .u64 (x2 : Int)) ∧ u.cell? ⟨b, off + 5, none⟩ = some (.int .u64 (x3 : Int)) ∧ u.cell? ⟨b, off + 6, none⟩ = some (.int .i64 0) ∧ u.cell? ⟨b, off + 7, none⟩ = some (.int .i64 0) ∧ Below w.heap.size w u)
        (first | (with_reducible exact and9 (HS.out _ HBE.out) HBE.out) | (with_reducible exact and9 (HS.out _ HBF.out) HBF.out) | (with_reducible exact and9 (HS.out _ (KB1.alloc KB1.size _)) (KB1.alloc KB1.size _)) | (with_reducible exact and9 (HS.out _ (over8_below KB1 (Nat.le_refl _) KB1.size (.int .i64 5) (.int .i64 1) (.int .u64 (x0 : Int)) (.int .u64 (x1 : Int)) (.int .u64 (x2 : Int)) (.int .u64 (x3 : Int)) (.int .i64 0) (.int .i64 0))) (over8_below KB1 (Nat.le_refl _) KB1.size (.int .i64 5) (.int .i64 1) (.int .u64 (x0 : Int)) (.int .u64 (x1 : Int)) (.int .u64 (x2 : Int)) (.int .u64 (x3 : Int)) (.int .i64 0) (.int .i64 0))) | (exact ⟨b0, b1, b2, b3, b4, b5, b6, b7, bd⟩) | (exact ⟨c0, c1, c2, c3, c4, c5, c6, c7, KB1⟩) | assumption)
        (first | (go_at_call 27; refine (HCh.out _ (by first | (with_reducible exact bd) | (with_reducible exact HBE.out) | (with_reducible exact HBF.out) | exact below_draws w 1)).mono ?_; rintro e w1 ⟨v1, L1, rfl, hv1, hk1, k1⟩; have KB1 := grows (show Below w.heap.size w _ by first | (with_reducible exact bd) | (with_reducible exact HBE.out) | (with_reducible exact HBF.out) | exact below_draws w 1) k1; obtain ⟨c0, c1, c2, c3, c4, c5, c6, c7⟩ := HS.out w1 KB1; have HV1 := Lib.hid hv1; have HK1 := Lib.hid hk1; have HK9 := Lib.hid k1; clear hv1 hk1; try (obtain ⟨⟨r0, r1, r2, r3, r4, r5, r6, r7⟩, f0, f1, f2, f3, f4, f5, f6, f7⟩ := eight_blk (Blk.below HRA.out k1)); clear k1))
      all_goals
        simp only [Exit.then]
        go_wp2
        go_meet
        first
        | (with_reducible exact ⟨_, _, L1, rfl, rfl, Lib.hid (Blk.fresh w1 _ _), Lib.hid ⟨_, HV1.out.below (below_alloc w1 _)⟩, HK1, Lib.hid (KB1.alloc KB1.size _)⟩)
        | (with_reducible exact ⟨_, _, L1, rfl, rfl, Lib.hid (Blk.below HRB.out HK9.out), Lib.hid ⟨_, HV1.out⟩, HK1, Lib.hid KB1⟩)
        | (with_reducible exact ⟨_, _, L1, rfl, rfl, Lib.hid (over8_blk (Blk.below HRA.out HK9.out) (.int .i64 5) (.int .i64 1) (.int .u64 (x0 : Int)) (.int .u64 (x1 : Int)) (.int .u64 (x2 : Int)) (.int .u64 (x3 : Int)) (.int .i64 0) (.int .i64 0)), Lib.hid ⟨_, HV1.out.only (over8_only w1 w.heap.size (.int .i64 5) (.int .i64 1) (.int .u64 (x0 : Int)) (.int .u64 (x1 : Int)) (.int .u64 (x2 : Int)) (.int .u64 (x3 : Int)) (.int .i64 0) (.int .i64 0)) (fun i hi e => by have h1 := HV1.out.lo i hi; have h2 := HSA.out; omega)⟩, HK1, Lib.hid (over8_below KB1 (Nat.le_refl _) KB1.size (.int .i64 5) (.int .i64 1) (.int .u64 (x0 : Int)) (.int .u64 (x1 : Int)) (.int .u64 (x2 : Int)) (.int .u64 (x3 : Int)) (.int .i64 0) (.int .i64 0))⟩)
    case rest =>
      obtain ⟨g, v, L, rfl, rfl, HR, HVV, HK, HB⟩ := hcut
      obtain ⟨⟨r0, r1, r2, r3, r4, r5, r6, r7⟩, _⟩ := eight_blk HR.out
      obtain ⟨bs, hvs⟩ := HVV.out
      have HVS := Lib.hid hvs
      have HKC := Lib.hid (kidV.below HK.out HB.out)
      obtain ⟨AV, CV, hav, _⟩ := hvs.le
      subst hav
      rw [HKC.out.1] at HVS ⊢
      clear hvs HVV HK HCh HS HRA HBE HRB HBF
      generalize wc = wc at *
      go_wp2
      go_ret
      exact ⟨retB (show true = _ by simp [emQ]), HB.out⟩
  | plus u =>
    dsimp only [hd, kidsT] at a0 a1 a6 a7 HS HCh HAsk HKL
    have RA : Blk (w.alloc (.cells #[.int .i64 0, .int .i64 0, .int .u64 0, .int .u64 0, .int .u64 0, .int .u64 0, .int .i64 0, .int .i64 0] 38)).drew w.heap.size 38 #[.int .i64 0, .int .i64 0, .int .u64 0, .int .u64 0, .int .u64 0, .int .u64 0, .int .i64 0, .int .i64 0] := Blk.fresh w _ _
    have BE : Below w.heap.size w (w.alloc (.cells #[.int .i64 0, .int .i64 0, .int .u64 0, .int .u64 0, .int .u64 0, .int .u64 0, .int .i64 0, .int .i64 0] 38)).drew := (below_alloc w _).drew
    have RB : Blk (w.alloc (.cells #[.int .i64 6, .int .i64 1, .int .u64 (x0 : Int), .int .u64 (x1 : Int), .int .u64 (x2 : Int), .int .u64 (x3 : Int), .int .i64 0, .int .i64 0] 38)).drew w.heap.size 38 #[.int .i64 6, .int .i64 1, .int .u64 (x0 : Int), .int .u64 (x1 : Int), .int .u64 (x2 : Int), .int .u64 (x3 : Int), .int .i64 0, .int .i64 0] := Blk.fresh w _ _
    have BF : Below w.heap.size w (w.alloc (.cells #[.int .i64 6, .int .i64 1, .int .u64 (x0 : Int), .int .u64 (x1 : Int), .int .u64 (x2 : Int), .int .u64 (x3 : Int), .int .i64 0, .int .i64 0] 38)).drew := (below_alloc w _).drew
    have HRB := Lib.hid RB
    have HBF := Lib.hid BF
    have HSA : Hid ((w.alloc (.cells #[.int .i64 0, .int .i64 0, .int .u64 0, .int .u64 0, .int .u64 0, .int .u64 0, .int .i64 0, .int .i64 0] 38)).drew.heap.size = w.heap.size + 1) := Lib.hid (size_alloc _ _)
    have HRA := Lib.hid RA
    have HBE := Lib.hid BE
    clear RA BE RB BF
    go_enter Tryd.func24, Tryd.ntmps24
    go_upto_region 1 with fail
    go_cut [3, 4] (fun s3 s4 wx => ∃ (g : Nat) (v : Value) (L : List Value), s3 = .pointer (some ⟨g, 0, none⟩) ∧ s4 = v ∧ Hid (Blk wx g 38 #[.int .i64 6, .int .i64 1, .int .u64 (x0 : Int), .int .u64 (x1 : Int), .int .u64 (x2 : Int), .int .u64 (x3 : Int), .int .i64 0, .int .i64 0]) ∧ Hid (∃ base, vs wx base 22 v L) ∧ Hid (kidV w L [u]) ∧ Hid (Below w.heap.size w wx))
    case first =>
      have KD := And.intro (HS.out w.drew (below_draws w 1)) (below_draws w 1)
      obtain ⟨⟨b0, b1, b2, b3, b4, b5, b6, b7⟩, bd⟩ := KD
      go_region_held3 (fun u => u.cell? ⟨b, off, none⟩ = some (.int .i64 6) ∧ u.cell? ⟨b, off + 1, none⟩ = some (.int .i64 1) ∧ u.cell? ⟨b, off + 2, none⟩ = some (.int .u64 (x0 : Int)) ∧ u.cell? ⟨b, off + 3, none⟩ = some (.int .u64 (x1 : Int)) ∧ u.cell? ⟨b, off + 4, none⟩ = some (.int .u64 (x2 : Int)) ∧ u.cell? ⟨b, off + 5, none⟩ = some (.int .u64 (x3 : Int)) ∧ u.cell? ⟨b, off + 6, none⟩ = some (.int .i64 0) ∧ u.cell? ⟨b, off + 7, none⟩ = some (.int .i64 0) ∧ Below w.heap.size w u)
        (first | (with_reducible exact and9 (HS.out _ HBE.out) HBE.out) | (with_reducible exact and9 (HS.out _ HBF.out) HBF.out) | (with_reducible exact and9 (HS.out _ (KB1.alloc KB1.size _)) (KB1.alloc KB1.size _)) | (with_reducible exact and9 (HS.out _ (over8_below KB1 (Nat.le_refl _) KB1.size (.int .i64 6) (.int .i64 1) (.int .u64 (x0 : Int)) (.int .u64 (x1 : Int)) (.int .u64 (x2 : Int)) (.int .u64 (x3 : Int)) (.int .i64 0) (.int .i64 0))) (over8_below KB1 (Nat.le_refl _) KB1.size (.int .i64 6) (.int .i64 1) (.int .u64 (x0 : Int)) (.int .u64 (x1 : Int)) (.int .u64 (x2 : Int)) (.int .u64 (x3 : Int)) (.int .i64 0) (.int .i64 0))) | (exact ⟨b0, b1, b2, b3, b4, b5, b6, b7, bd⟩) | (exact ⟨c0, c1, c2, c3, c4, c5, c6, c7, KB1⟩) | assumption)
        (first | (go_at_call 27; refine (HCh.out _ (by first | (with_reducible exact bd) | (with_reducible exact HBE.out) | (with_reducible exact HBF.out) | exact below_draws w 1)).mono ?_; rintro e w1 ⟨v1, L1, rfl, hv1, hk1, k1⟩; have KB1 := grows (show Below w.heap.size w _ by first | (with_reducible exact bd) | (with_reducible exact HBE.out) | (with_reducible exact HBF.out) | exact below_draws w 1) k1; obtain ⟨c0, c1, c2, c3, c4, c5, c6, c7⟩ := HS.out w1 KB1; have HV1 := Lib.hid hv1; have HK1 := Lib.hid hk1; have HK9 := Lib.hid k1; clear hv1 hk1; try (obtain ⟨⟨r0, r1, r2, r3, r4, r5, r6, r7⟩, f0, f1, f2, f3, f4, f5, f6, f7⟩ := eight_blk (Blk.below HRA.out k1)); clear k1))
      all_goals
        simp only [Exit.then]
        go_wp2
        go_meet
        first
        | (with_reducible exact ⟨_, _, L1, rfl, rfl, Lib.hid (Blk.fresh w1 _ _), Lib.hid ⟨_, HV1.out.below (below_alloc w1 _)⟩, HK1, Lib.hid (KB1.alloc KB1.size _)⟩)
        | (with_reducible exact ⟨_, _, L1, rfl, rfl, Lib.hid (Blk.below HRB.out HK9.out), Lib.hid ⟨_, HV1.out⟩, HK1, Lib.hid KB1⟩)
        | (with_reducible exact ⟨_, _, L1, rfl, rfl, Lib.hid (over8_blk (Blk.below HRA.out HK9.out) (.int .i64 6) (.int .i64 1) (.int .u64 (x0 : Int)) (.int .u64 (x1 : Int)) (.int .u64 (x2 : Int)) (.int .u64 (x3 : Int)) (.int .i64 0) (.int .i64 0)), Lib.hid ⟨_, HV1.out.only (over8_only w1 w.heap.size (.int .i64 6) (.int .i64 1) (.int .u64 (x0 : Int)) (.int .u64 (x1 : Int)) (.int .u64 (x2 : Int)) (.int .u64 (x3 : Int)) (.int .i64 0) (.int .i64 0)) (fun i hi e => by have h1 := HV1.out.lo i hi; have h2 := HSA.out; omega)⟩, HK1, Lib.hid (over8_below KB1 (Nat.le_refl _) KB1.size (.int .i64 6) (.int .i64 1) (.int .u64 (x0 : Int)) (.int .u64 (x1 : Int)) (.int .u64 (x2 : Int)) (.int .u64 (x3 : Int)) (.int .i64 0) (.int .i64 0))⟩)
    case rest =>
      obtain ⟨g, v, L, rfl, rfl, HR, HVV, HK, HB⟩ := hcut
      obtain ⟨⟨r0, r1, r2, r3, r4, r5, r6, r7⟩, _⟩ := eight_blk HR.out
      obtain ⟨bs, hvs⟩ := HVV.out
      have HVS := Lib.hid hvs
      have HKC := Lib.hid (kidV.below HK.out HB.out)
      obtain ⟨AV, CV, hav, _⟩ := hvs.le
      subst hav
      rw [HKC.out.1] at HVS ⊢
      clear hvs HVV HK HCh HS HRA HBE HRB HBF
      generalize wc = wc at *
      have HC := Lib.hid (Contains_empty (v := .slice AV [u].length CV) HVS (Lib.hid (asks_tests HAsk.out HKC.out)) (by rw [HKC.out.1]; exact HKL.out))
      rw [HKC.out.1] at HC
      obtain ⟨R, hR⟩ : ∃ R, R = anyP (fun j => emQ (kidOf [u] j)) [u].length := ⟨_, rfl⟩
      have HR2 : Hid (emQ (.plus u) = R) := Lib.hid (by rw [hR, emQ]; simp [anyP, kidOf])
      rw [← hR] at HC
      clear hR
      dsimp only [List.length_cons, List.length_nil, Nat.zero_add] at HC HVS ⊢
      go_wp2_with (go_at_call 36; refine HC.out.mono ?_; rintro e w9 ⟨rfl, k9⟩; have K9 := Lib.hid k9; clear k9)
      go_ret
      exact ⟨retB HR2.out.symm, grows HB.out K9.out⟩
  | opt u =>
    dsimp only [hd, kidsT] at a0 a1 a6 a7 HS HCh HAsk HKL
    have RA : Blk (w.alloc (.cells #[.int .i64 0, .int .i64 0, .int .u64 0, .int .u64 0, .int .u64 0, .int .u64 0, .int .i64 0, .int .i64 0] 38)).drew w.heap.size 38 #[.int .i64 0, .int .i64 0, .int .u64 0, .int .u64 0, .int .u64 0, .int .u64 0, .int .i64 0, .int .i64 0] := Blk.fresh w _ _
    have BE : Below w.heap.size w (w.alloc (.cells #[.int .i64 0, .int .i64 0, .int .u64 0, .int .u64 0, .int .u64 0, .int .u64 0, .int .i64 0, .int .i64 0] 38)).drew := (below_alloc w _).drew
    have RB : Blk (w.alloc (.cells #[.int .i64 7, .int .i64 1, .int .u64 (x0 : Int), .int .u64 (x1 : Int), .int .u64 (x2 : Int), .int .u64 (x3 : Int), .int .i64 0, .int .i64 0] 38)).drew w.heap.size 38 #[.int .i64 7, .int .i64 1, .int .u64 (x0 : Int), .int .u64 (x1 : Int), .int .u64 (x2 : Int), .int .u64 (x3 : Int), .int .i64 0, .int .i64 0] := Blk.fresh w _ _
    have BF : Below w.heap.size w (w.alloc (.cells #[.int .i64 7, .int .i64 1, .int .u64 (x0 : Int), .int .u64 (x1 : Int), .int .u64 (x2 : Int), .int .u64 (x3 : Int), .int .i64 0, .int .i64 0] 38)).drew := (below_alloc w _).drew
    have HRB := Lib.hid RB
    have HBF := Lib.hid BF
    have HSA : Hid ((w.alloc (.cells #[.int .i64 0, .int .i64 0, .int .u64 0, .int .u64 0, .int .u64 0, .int .u64 0, .int .i64 0, .int .i64 0] 38)).drew.heap.size = w.heap.size + 1) := Lib.hid (size_alloc _ _)
    have HRA := Lib.hid RA
    have HBE := Lib.hid BE
    clear RA BE RB BF
    go_enter Tryd.func24, Tryd.ntmps24
    go_upto_region 1 with fail
    go_cut [3, 4] (fun s3 s4 wx => ∃ (g : Nat) (v : Value) (L : List Value), s3 = .pointer (some ⟨g, 0, none⟩) ∧ s4 = v ∧ Hid (Blk wx g 38 #[.int .i64 7, .int .i64 1, .int .u64 (x0 : Int), .int .u64 (x1 : Int), .int .u64 (x2 : Int), .int .u64 (x3 : Int), .int .i64 0, .int .i64 0]) ∧ Hid (∃ base, vs wx base 22 v L) ∧ Hid (kidV w L [u]) ∧ Hid (Below w.heap.size w wx))
    case first =>
      have KD := And.intro (HS.out w.drew (below_draws w 1)) (below_draws w 1)
      obtain ⟨⟨b0, b1, b2, b3, b4, b5, b6, b7⟩, bd⟩ := KD
      go_region_held3 (fun u => u.cell? ⟨b, off, none⟩ = some (.int .i64 7) ∧ u.cell? ⟨b, off + 1, none⟩ = some (.int .i64 1) ∧ u.cell? ⟨b, off + 2, none⟩ = some (.int .u64 (x0 : Int)) ∧ u.cell? ⟨b, off + 3, none⟩ = some (.int .u64 (x1 : Int)) ∧ u.cell? ⟨b, off + 4, none⟩ = some (.int .u64 (x2 : Int)) ∧ u.cell? ⟨b, off + 5, none⟩ = some (.int .u64 (x3 : Int)) ∧ u.cell? ⟨b, off + 6, none⟩ = some (.int .i64 0) ∧ u.cell? ⟨b, off + 7, none⟩ = some (.int .i64 0) ∧ Below w.heap.size w u)
        (first | (with_reducible exact and9 (HS.out _ HBE.out) HBE.out) | (with_reducible exact and9 (HS.out _ HBF.out) HBF.out) | (with_reducible exact and9 (HS.out _ (KB1.alloc KB1.size _)) (KB1.alloc KB1.size _)) | (with_reducible exact and9 (HS.out _ (over8_below KB1 (Nat.le_refl _) KB1.size (.int .i64 7) (.int .i64 1) (.int .u64 (x0 : Int)) (.int .u64 (x1 : Int)) (.int .u64 (x2 : Int)) (.int .u64 (x3 : Int)) (.int .i64 0) (.int .i64 0))) (over8_below KB1 (Nat.le_refl _) KB1.size (.int .i64 7) (.int .i64 1) (.int .u64 (x0 : Int)) (.int .u64 (x1 : Int)) (.int .u64 (x2 : Int)) (.int .u64 (x3 : Int)) (.int .i64 0) (.int .i64 0))) | (exact ⟨b0, b1, b2, b3, b4, b5, b6, b7, bd⟩) | (exact ⟨c0, c1, c2, c3, c4, c5, c6, c7, KB1⟩) | assumption)
        (first | (go_at_call 27; refine (HCh.out _ (by first | (with_reducible exact bd) | (with_reducible exact HBE.out) | (with_reducible exact HBF.out) | exact below_draws w 1)).mono ?_; rintro e w1 ⟨v1, L1, rfl, hv1, hk1, k1⟩; have KB1 := grows (show Below w.heap.size w _ by first | (with_reducible exact bd) | (with_reducible exact HBE.out) | (with_reducible exact HBF.out) | exact below_draws w 1) k1; obtain ⟨c0, c1, c2, c3, c4, c5, c6, c7⟩ := HS.out w1 KB1; have HV1 := Lib.hid hv1; have HK1 := Lib.hid hk1; have HK9 := Lib.hid k1; clear hv1 hk1; try (obtain ⟨⟨r0, r1, r2, r3, r4, r5, r6, r7⟩, f0, f1, f2, f3, f4, f5, f6, f7⟩ := eight_blk (Blk.below HRA.out k1)); clear k1))
      all_goals
        simp only [Exit.then]
        go_wp2
        go_meet
        first
        | (with_reducible exact ⟨_, _, L1, rfl, rfl, Lib.hid (Blk.fresh w1 _ _), Lib.hid ⟨_, HV1.out.below (below_alloc w1 _)⟩, HK1, Lib.hid (KB1.alloc KB1.size _)⟩)
        | (with_reducible exact ⟨_, _, L1, rfl, rfl, Lib.hid (Blk.below HRB.out HK9.out), Lib.hid ⟨_, HV1.out⟩, HK1, Lib.hid KB1⟩)
        | (with_reducible exact ⟨_, _, L1, rfl, rfl, Lib.hid (over8_blk (Blk.below HRA.out HK9.out) (.int .i64 7) (.int .i64 1) (.int .u64 (x0 : Int)) (.int .u64 (x1 : Int)) (.int .u64 (x2 : Int)) (.int .u64 (x3 : Int)) (.int .i64 0) (.int .i64 0)), Lib.hid ⟨_, HV1.out.only (over8_only w1 w.heap.size (.int .i64 7) (.int .i64 1) (.int .u64 (x0 : Int)) (.int .u64 (x1 : Int)) (.int .u64 (x2 : Int)) (.int .u64 (x3 : Int)) (.int .i64 0) (.int .i64 0)) (fun i hi e => by have h1 := HV1.out.lo i hi; have h2 := HSA.out; omega)⟩, HK1, Lib.hid (over8_below KB1 (Nat.le_refl _) KB1.size (.int .i64 7) (.int .i64 1) (.int .u64 (x0 : Int)) (.int .u64 (x1 : Int)) (.int .u64 (x2 : Int)) (.int .u64 (x3 : Int)) (.int .i64 0) (.int .i64 0))⟩)
    case rest =>
      obtain ⟨g, v, L, rfl, rfl, HR, HVV, HK, HB⟩ := hcut
      obtain ⟨⟨r0, r1, r2, r3, r4, r5, r6, r7⟩, _⟩ := eight_blk HR.out
      obtain ⟨bs, hvs⟩ := HVV.out
      have HVS := Lib.hid hvs
      have HKC := Lib.hid (kidV.below HK.out HB.out)
      obtain ⟨AV, CV, hav, _⟩ := hvs.le
      subst hav
      rw [HKC.out.1] at HVS ⊢
      clear hvs HVV HK HCh HS HRA HBE HRB HBF
      generalize wc = wc at *
      go_wp2
      go_ret
      exact ⟨retB (show true = _ by simp [emQ]), HB.out⟩
  | rep lo hi u =>
    dsimp only [hd, kidsT] at a0 a1 a6 a7 HS HCh HAsk HKL
    have RA : Blk (w.alloc (.cells #[.int .i64 0, .int .i64 0, .int .u64 0, .int .u64 0, .int .u64 0, .int .u64 0, .int .i64 0, .int .i64 0] 38)).drew w.heap.size 38 #[.int .i64 0, .int .i64 0, .int .u64 0, .int .u64 0, .int .u64 0, .int .u64 0, .int .i64 0, .int .i64 0] := Blk.fresh w _ _
    have BE : Below w.heap.size w (w.alloc (.cells #[.int .i64 0, .int .i64 0, .int .u64 0, .int .u64 0, .int .u64 0, .int .u64 0, .int .i64 0, .int .i64 0] 38)).drew := (below_alloc w _).drew
    have RB : Blk (w.alloc (.cells #[.int .i64 8, .int .i64 1, .int .u64 (x0 : Int), .int .u64 (x1 : Int), .int .u64 (x2 : Int), .int .u64 (x3 : Int), .int .i64 (lo : Int), .int .i64 hi] 38)).drew w.heap.size 38 #[.int .i64 8, .int .i64 1, .int .u64 (x0 : Int), .int .u64 (x1 : Int), .int .u64 (x2 : Int), .int .u64 (x3 : Int), .int .i64 (lo : Int), .int .i64 hi] := Blk.fresh w _ _
    have BF : Below w.heap.size w (w.alloc (.cells #[.int .i64 8, .int .i64 1, .int .u64 (x0 : Int), .int .u64 (x1 : Int), .int .u64 (x2 : Int), .int .u64 (x3 : Int), .int .i64 (lo : Int), .int .i64 hi] 38)).drew := (below_alloc w _).drew
    have HRB := Lib.hid RB
    have HBF := Lib.hid BF
    have HSA : Hid ((w.alloc (.cells #[.int .i64 0, .int .i64 0, .int .u64 0, .int .u64 0, .int .u64 0, .int .u64 0, .int .i64 0, .int .i64 0] 38)).drew.heap.size = w.heap.size + 1) := Lib.hid (size_alloc _ _)
    have HRA := Lib.hid RA
    have HBE := Lib.hid BE
    clear RA BE RB BF
    go_enter Tryd.func24, Tryd.ntmps24
    go_upto_region 1 with fail
    go_cut [3, 4] (fun s3 s4 wx => ∃ (g : Nat) (v : Value) (L : List Value), s3 = .pointer (some ⟨g, 0, none⟩) ∧ s4 = v ∧ Hid (Blk wx g 38 #[.int .i64 8, .int .i64 1, .int .u64 (x0 : Int), .int .u64 (x1 : Int), .int .u64 (x2 : Int), .int .u64 (x3 : Int), .int .i64 (lo : Int), .int .i64 hi]) ∧ Hid (∃ base, vs wx base 22 v L) ∧ Hid (kidV w L [u]) ∧ Hid (Below w.heap.size w wx))
    case first =>
      have KD := And.intro (HS.out w.drew (below_draws w 1)) (below_draws w 1)
      obtain ⟨⟨b0, b1, b2, b3, b4, b5, b6, b7⟩, bd⟩ := KD
      go_region_held3 (fun u => u.cell? ⟨b, off, none⟩ = some (.int .i64 8) ∧ u.cell? ⟨b, off + 1, none⟩ = some (.int .i64 1) ∧ u.cell? ⟨b, off + 2, none⟩ = some (.int .u64 (x0 : Int)) ∧ u.cell? ⟨b, off + 3, none⟩ = some (.int .u64 (x1 : Int)) ∧ u.cell? ⟨b, off + 4, none⟩ = some (.int .u64 (x2 : Int)) ∧ u.cell? ⟨b, off + 5, none⟩ = some (.int .u64 (x3 : Int)) ∧ u.cell? ⟨b, off + 6, none⟩ = some (.int .i64 (lo : Int)) ∧ u.cell? ⟨b, off + 7, none⟩ = some (.int .i64 hi) ∧ Below w.heap.size w u)
        (first | (with_reducible exact and9 (HS.out _ HBE.out) HBE.out) | (with_reducible exact and9 (HS.out _ HBF.out) HBF.out) | (with_reducible exact and9 (HS.out _ (KB1.alloc KB1.size _)) (KB1.alloc KB1.size _)) | (with_reducible exact and9 (HS.out _ (over8_below KB1 (Nat.le_refl _) KB1.size (.int .i64 8) (.int .i64 1) (.int .u64 (x0 : Int)) (.int .u64 (x1 : Int)) (.int .u64 (x2 : Int)) (.int .u64 (x3 : Int)) (.int .i64 (lo : Int)) (.int .i64 hi))) (over8_below KB1 (Nat.le_refl _) KB1.size (.int .i64 8) (.int .i64 1) (.int .u64 (x0 : Int)) (.int .u64 (x1 : Int)) (.int .u64 (x2 : Int)) (.int .u64 (x3 : Int)) (.int .i64 (lo : Int)) (.int .i64 hi))) | (exact ⟨b0, b1, b2, b3, b4, b5, b6, b7, bd⟩) | (exact ⟨c0, c1, c2, c3, c4, c5, c6, c7, KB1⟩) | assumption)
        (first | (go_at_call 27; refine (HCh.out _ (by first | (with_reducible exact bd) | (with_reducible exact HBE.out) | (with_reducible exact HBF.out) | exact below_draws w 1)).mono ?_; rintro e w1 ⟨v1, L1, rfl, hv1, hk1, k1⟩; have KB1 := grows (show Below w.heap.size w _ by first | (with_reducible exact bd) | (with_reducible exact HBE.out) | (with_reducible exact HBF.out) | exact below_draws w 1) k1; obtain ⟨c0, c1, c2, c3, c4, c5, c6, c7⟩ := HS.out w1 KB1; have HV1 := Lib.hid hv1; have HK1 := Lib.hid hk1; have HK9 := Lib.hid k1; clear hv1 hk1; try (obtain ⟨⟨r0, r1, r2, r3, r4, r5, r6, r7⟩, f0, f1, f2, f3, f4, f5, f6, f7⟩ := eight_blk (Blk.below HRA.out k1)); clear k1))
      all_goals
        simp only [Exit.then]
        go_wp2
        go_meet
        first
        | (with_reducible exact ⟨_, _, L1, rfl, rfl, Lib.hid (Blk.fresh w1 _ _), Lib.hid ⟨_, HV1.out.below (below_alloc w1 _)⟩, HK1, Lib.hid (KB1.alloc KB1.size _)⟩)
        | (with_reducible exact ⟨_, _, L1, rfl, rfl, Lib.hid (Blk.below HRB.out HK9.out), Lib.hid ⟨_, HV1.out⟩, HK1, Lib.hid KB1⟩)
        | (with_reducible exact ⟨_, _, L1, rfl, rfl, Lib.hid (over8_blk (Blk.below HRA.out HK9.out) (.int .i64 8) (.int .i64 1) (.int .u64 (x0 : Int)) (.int .u64 (x1 : Int)) (.int .u64 (x2 : Int)) (.int .u64 (x3 : Int)) (.int .i64 (lo : Int)) (.int .i64 hi)), Lib.hid ⟨_, HV1.out.only (over8_only w1 w.heap.size (.int .i64 8) (.int .i64 1) (.int .u64 (x0 : Int)) (.int .u64 (x1 : Int)) (.int .u64 (x2 : Int)) (.int .u64 (x3 : Int)) (.int .i64 (lo : Int)) (.int .i64 hi)) (fun i hi e => by have h1 := HV1.out.lo i hi; have h2 := HSA.out; omega)⟩, HK1, Lib.hid (over8_below KB1 (Nat.le_refl _) KB1.size (.int .i64 8) (.int .i64 1) (.int .u64 (x0 : Int)) (.int .u64 (x1 : Int)) (.int .u64 (x2 : Int)) (.int .u64 (x3 : Int)) (.int .i64 (lo : Int)) (.int .i64 hi))⟩)
    case rest =>
      obtain ⟨g, v, L, rfl, rfl, HR, HVV, HK, HB⟩ := hcut
      obtain ⟨⟨r0, r1, r2, r3, r4, r5, r6, r7⟩, _⟩ := eight_blk HR.out
      obtain ⟨bs, hvs⟩ := HVV.out
      have HVS := Lib.hid hvs
      have HKC := Lib.hid (kidV.below HK.out HB.out)
      obtain ⟨AV, CV, hav, _⟩ := hvs.le
      subst hav
      rw [HKC.out.1] at HVS ⊢
      clear hvs HVV HK HCh HS HRA HBE HRB HBF
      generalize wc = wc at *
      obtain ⟨x, hx, A1, c1, hxv, _, _⟩ := HKC.out.2 0 u rfl
      have HC := Lib.hid (HAsk.out 0 u rfl wc x (by obtain ⟨x2, hx2, hs2⟩ := HKC.out.2 0 u rfl; rw [hx] at hx2; obtain rfl := Option.some.inj hx2; exact hs2))
      subst hxv
      obtain ⟨gv, hgv, _, hc⟩ := HVS.out.cell hx
      subst hgv
      dsimp only [List.length_cons, List.length_nil, Nat.zero_add] at HVS ⊢
      generalize (enc u).length = nu at *
      obtain ⟨eb, heb⟩ : ∃ eb, eb = emQ u := ⟨_, rfl⟩
      rw [← heb] at HC
      have HEB := Lib.hid heb
      clear heb hx
      by_cases h0 : lo = 0
      · subst h0
        go_wp2_with (go_at_call 24; refine HC.out.mono ?_; rintro e w9 ⟨rfl, k9⟩; have K9 := Lib.hid k9; clear k9)
        go_ret
        exact ⟨retB (show true = _ by simp [emQ]), HB.out⟩
      · have h1 : ((lo : Int) == 0) = false := by simp; exact h0
        go_wp2_with (go_at_call 24; refine HC.out.mono ?_; rintro e w9 ⟨rfl, k9⟩; have K9 := Lib.hid k9; clear k9)
        go_ret
        exact ⟨retB (show eb = _ by rw [HEB.out]; simp [emQ, h0]), grows HB.out K9.out⟩
end Go.Proofs.YtabcehifdomolaaDoor.Eh
namespace Go.Proofs.YtabcehifdomolaaDoor.Ei
open Go.RowKit Go.Proofs.YtabcehifdomolaaDoor.Vm Go.Proofs.YtabcehifdomolaaDoor.Vo Go.Proofs.YtabcehifdomolaaDoor.Bw Go.Proofs.YtabcehifdomolaaDoor.Na Go.Proofs.YtabcehifdomolaaDoor.Tm Go.Proofs.YtabcehifdomolaaDoor.Ta Go.Proofs.YtabcehifdomolaaDoor.Tb Go.Proofs.YtabcehifdomolaaDoor.Tf Go.Proofs.YtabcehifdomolaaDoor.Rm Go.Proofs.YtabcehifdomolaaDoor.Rv Go.Proofs.YtabcehifdomolaaDoor.Ra Go.Proofs.YtabcehifdomolaaDoor.Rf Go.Proofs.YtabcehifdomolaaDoor.Rg Go.Proofs.YtabcehifdomolaaDoor.Ec Go.Proofs.YtabcehifdomolaaDoor.Ed Go.Proofs.YtabcehifdomolaaDoor.Eh

theorem checkI_two (l : List Nd) : checkI l = 0 ∨ checkI l = 4 := by
  unfold checkI
  split
  · exact .inl rfl
  · exact .inr rfl
set_option maxRecDepth 100000 in
theorem Empty_no {A : Option Addr} {cap : Nat} {l : List Nd} (hl : l.length ≤ 1000000) (hc : checkI l ≠ 0) {w : World} (H : Hid (nds w A l)) :
    Calls Tryd.prog 16 #[.slice A l.length cap] w fun e w' => e = .returned (.bool false) ∧ Below w.heap.size w w' := by
  have HC := Lib.hid (Check_any (cap := cap) hl H)
  rw [(checkI_two l).resolve_left hc] at HC
  obtain ⟨N, hN⟩ : ∃ N, N = l.length := ⟨_, rfl⟩
  rw [← hN] at HC ⊢
  clear hN
  go_enter Tryd.func16, Tryd.ntmps16
  go_wp2_with (go_at_call 8; refine HC.out.mono ?_; rintro e w9 ⟨rfl, k9⟩; have K9 := Lib.hid k9; clear k9)
  go_ret
  exact ⟨rfl, K9.out⟩
set_option maxRecDepth 100000 in
theorem Empty_yes {A : Option Addr} {cap : Nat} {t : T} (hl : (enc t).length ≤ 1000000) (hcap : (enc t).length ≤ cap) (hc : checkI (enc t) = 0) {w : World} (H : Hid (nds w A (enc t))) :
    Calls Tryd.prog 16 #[.slice A (enc t).length cap] w fun e w' => e = .returned (.bool (emQ t)) ∧ Below w.heap.size w w' := by
  have HC := Lib.hid (Check_any (cap := cap) hl H)
  rw [hc] at HC
  have HE : Hid (∀ w', Below w.heap.size w w' → Calls Tryd.prog 24 #[.slice A (enc t).length cap] w' fun e w'' => e = .returned (.bool (emQ t)) ∧ Below w'.heap.size w' w'') := Lib.hid (fun w' k => empty_all _ t (Nat.le_refl _) hl w' _ ⟨A, cap, rfl, hcap, H.out.below k⟩)
  obtain ⟨N, hN⟩ : ∃ N, N = (enc t).length := ⟨_, rfl⟩
  obtain ⟨R, hR⟩ : ∃ R, R = emQ t := ⟨_, rfl⟩
  rw [← hN] at HC HE ⊢
  rw [← hR] at HE ⊢
  clear hN hR
  go_enter Tryd.func16, Tryd.ntmps16
  go_wp2_with (first | (go_at_call 8; refine HC.out.mono ?_; rintro e w9 ⟨rfl, k9⟩; have K9 := Lib.hid k9; have HE9 := Lib.hid (HE.out w9 k9); clear k9) | (go_at_call 24; refine HE9.out.mono ?_; rintro e w8 ⟨rfl, k8⟩; have K8 := Lib.hid k8; clear k8))
  go_ret
  exact ⟨rfl, grows K9.out K8.out⟩
end Go.Proofs.YtabcehifdomolaaDoor.Ei
namespace Go.Proofs.YtabcehifdomolaaDoor.Et
open Go.RowKit Go.PlainAid Go.Proofs.YtabcehifdomolaaDoor.Vm Go.Proofs.YtabcehifdomolaaDoor.Vo Go.Proofs.YtabcehifdomolaaDoor.Bw Go.Proofs.YtabcehifdomolaaDoor.Na Go.Proofs.YtabcehifdomolaaDoor.Tm Go.Proofs.YtabcehifdomolaaDoor.Ts Go.Proofs.YtabcehifdomolaaDoor.Ta Go.Proofs.YtabcehifdomolaaDoor.Tb Go.Proofs.YtabcehifdomolaaDoor.Tf Go.Proofs.YtabcehifdomolaaDoor.Rm Go.Proofs.YtabcehifdomolaaDoor.Rs Go.Proofs.YtabcehifdomolaaDoor.Ra Go.Proofs.YtabcehifdomolaaDoor.Ep Go.Proofs.YtabcehifdomolaaDoor.Em Go.Proofs.YtabcehifdomolaaDoor.Ek Go.Proofs.YtabcehifdomolaaDoor.Er Go.Proofs.YtabcehifdomolaaDoor.Eo Go.Proofs.YtabcehifdomolaaDoor.Es

/-- Is a set just that byte; is it not one byte. -/
def onlyO (o : Option Nat) (z : List Nat) : Prop := match o with
  | some b => byt z = [b] ∧ b < 256
  | none => (byt z).length ≠ 1
/-- What a char answers. -/
def chrA (s : ByteArray) (g : Nat) (o : Out (List Nat × Option Nat)) (z : List Nat) (w' : World) : Prop := isSet z ∧ outS o (fun x r => z = x.1 ∧ onlyO x.2 z ∧ live w' g s r) (fun e k => z = zero ∧ dead w' g s e k)
theorem byt_one : ∀ c < 256, byt (one c) = [c] := by decide +kernel
theorem byt_dig : (byt digS).length = 10 := by decide +kernel
theorem byt_wor : (byt worS).length = 63 := by decide +kernel
theorem mask_lt : ∀ c ∈ maskL, c < 256 := by decide
theorem esc_mean (r : List Nat) (hr : ∀ c ∈ r, c < 256) : isSet (meanQ r).1 ∧ (meanQ r).2 ≤ r.length ∧ (((meanQ r).2 = 0 ∧ (meanQ r).1 = zero ∧ escP r = .err 15 r.length) ∨ (0 < (meanQ r).2 ∧ ∃ o, escP r = .ok ((meanQ r).1, o) (r.drop (meanQ r).2) ∧ onlyO o (meanQ r).1)) := by
  cases r with
  | nil => exact ⟨zero_set, Nat.zero_le _, .inl ⟨rfl, rfl, rfl⟩⟩
  | cons c r =>
    have hc : c < 256 := hr c (by simp)
    by_cases h1 : c = 110
    · subst h1; exact ⟨one_set _, by simp [meanQ], .inr ⟨by simp [meanQ], some 10, rfl, byt_one 10 (by decide), by decide⟩⟩
    by_cases h2 : c = 116
    · subst h2; exact ⟨one_set _, by simp [meanQ], .inr ⟨by simp [meanQ], some 9, rfl, byt_one 9 (by decide), by decide⟩⟩
    by_cases h3 : c = 115
    · subst h3; exact ⟨one_set _, by simp [meanQ], .inr ⟨by simp [meanQ], some 32, rfl, byt_one 32 (by decide), by decide⟩⟩
    by_cases h4 : c = 100
    · subst h4; exact ⟨frm_set _ _, by simp [meanQ], .inr ⟨by simp [meanQ], none, rfl, by show (byt digS).length ≠ 1; rw [byt_dig]; decide⟩⟩
    by_cases h5 : c = 119
    · subst h5; exact ⟨orL_set (one_set _) (orL_set (frm_set _ _) (orL_set (frm_set _ _) (frm_set _ _))), by simp [meanQ], .inr ⟨by simp [meanQ], none, rfl, by show (byt worS).length ≠ 1; rw [byt_wor]; decide⟩⟩
    by_cases h6 : c = 120
    · subst h6
      have e : meanQ (120 :: r) = numbQ r := rfl
      rw [e]
      cases r with
      | nil => exact ⟨zero_set, Nat.zero_le _, .inl ⟨rfl, rfl, rfl⟩⟩
      | cons x r =>
        cases r with
        | nil => exact ⟨zero_set, Nat.zero_le _, .inl ⟨rfl, rfl, rfl⟩⟩
        | cons y r =>
          cases hx : hexP x with
          | none => 
            have e2 : numbQ (x :: y :: r) = (zero, 0) := by unfold numbQ; dsimp only; rw [hx]
            have e3 : escP (120 :: x :: y :: r) = .err 15 ((x :: y :: r).length + 1) := by show (match hexP x, hexP y with | some x, some y => _ | _, _ => _) = _; rw [hx]
            rw [e2, e3]
            exact ⟨zero_set, Nat.zero_le _, .inl ⟨rfl, rfl, rfl⟩⟩
          | some u =>
            cases hy : hexP y with
            | none =>
              have e2 : numbQ (x :: y :: r) = (zero, 0) := by unfold numbQ; dsimp only; rw [hx, hy]
              have e3 : escP (120 :: x :: y :: r) = .err 15 ((x :: y :: r).length + 1) := by show (match hexP x, hexP y with | some x, some y => _ | _, _ => _) = _; rw [hx, hy]
              rw [e2, e3]
              exact ⟨zero_set, Nat.zero_le _, .inl ⟨rfl, rfl, rfl⟩⟩
            | some v =>
              have hu := hex_lt hx
              have hv := hex_lt hy
              have e2 : numbQ (x :: y :: r) = (one (16 * u + v), 3) := by unfold numbQ; dsimp only; rw [hx, hy]
              have e3 : escP (120 :: x :: y :: r) = .ok (one (16 * u + v), some (16 * u + v)) r := by show (match hexP x, hexP y with | some x, some y => _ | _, _ => _) = _; rw [hx, hy]
              rw [e2, e3]
              exact ⟨one_set _, by simp, .inr ⟨Nat.succ_pos 2, some (16 * u + v), rfl, byt_one _ (by omega), by omega⟩⟩
    by_cases h7 : c ∈ maskL
    · have e2 : meanQ (c :: r) = (one c, 1) := by rw [meanQ, if_neg h1, if_neg h2, if_neg h3, if_neg h4, if_neg h5, if_neg h6, if_pos h7]
      have e3 : escP (c :: r) = .ok (one c, some c) r := by unfold escP; dsimp only; rw [if_neg h1, if_neg h2, if_neg h3, if_neg h4, if_neg h5, if_neg h6, if_pos h7]
      rw [e2, e3]
      exact ⟨one_set _, by simp, .inr ⟨Nat.succ_pos 0, some c, rfl, byt_one _ hc, hc⟩⟩
    · have e2 : meanQ (c :: r) = (zero, 0) := by rw [meanQ, if_neg h1, if_neg h2, if_neg h3, if_neg h4, if_neg h5, if_neg h6, if_neg h7]
      have e3 : escP (c :: r) = .err 15 (r.length + 1) := by unfold escP; dsimp only; rw [if_neg h1, if_neg h2, if_neg h3, if_neg h4, if_neg h5, if_neg h6, if_neg h7]
      rw [e2, e3]
      exact ⟨zero_set, Nat.zero_le _, .inl ⟨rfl, rfl, rfl⟩⟩
theorem rst_bytes (s : ByteArray) (a : Nat) : ∀ c ∈ rst s a, c < 256 := fun c hc => by
  unfold rst at hc
  have := List.mem_of_mem_drop hc
  unfold nb at this
  obtain ⟨b, _, rfl⟩ := List.mem_map.1 this
  exact UInt8.toNat_lt _
theorem rst_drop (s : ByteArray) (a n : Nat) : (rst s a).drop n = rst s (a + n) := by unfold rst; rw [List.drop_drop]
theorem cut_rest {s : ByteArray} {k : Nat} (h : k ≤ s.size) : ∃ t : ByteArray, t.size ≤ s.size ∧ rst t 0 = rst s k ∧ ∀ u : World, (Instr.slice 9 (.string s) (some (.int .i64 (k : Int))) none none).run Tryd.prog u = .ok (.string t) u := by
  refine ⟨s.extract k s.size, by rw [ByteArray.size_extract]; omega, ?_, fun u => ?_⟩
  · unfold rst nb
    rw [ByteArray.data_extract, Array.toList_extract, List.extract_eq_take_drop, List.take_of_length_le, List.drop_zero, List.map_drop]
    rw [List.length_drop, Array.length_toList]
    exact Nat.le_refl _
  · have g1 : ¬ s.size < k := by omega
    go_simp
end Go.Proofs.YtabcehifdomolaaDoor.Et
