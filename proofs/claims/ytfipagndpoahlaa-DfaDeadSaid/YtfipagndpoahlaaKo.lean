/-
  A slice of ints that a call makes itself: appended to, read, cut.
  Conditions: as each theorem says. Nothing of the program is named here.
-/
import Derived.Test.YtfipagndpoahlaaNa
import Derived.Maps.AppendAt
import Derived.Deep.AppendSrc
namespace Go.Proofs.Ytfipagndpoahlaa.Ko
open Go.RowKit Go.Proofs.Ytfipagndpoahlaa.Bw Go.Proofs.Ytfipagndpoahlaa.Na

def Is (l : List Int) : List Value := l.map (Value.int .i64)
theorem Is_length (l : List Int) : (Is l).length = l.length := by simp [Is]
theorem Is_append (a b : List Int) : Is (a ++ b) = Is a ++ Is b := by simp [Is]
theorem Is_one (l : List Int) : ∀ u ∈ Is l, u.oneCell' = true := by
  intro u hu
  obtain ⟨x, _, rfl⟩ := List.mem_map.1 hu
  rfl
theorem Is_get (l : List Int) (j : Nat) : (Is l)[j]? = l[j]?.map (Value.int .i64) := by simp [Is]
/-- A row of ints of the call's own. -/
def ints (w : World) (base : Nat) (e : TypeId) (v : Value) (l : List Int) : Prop := w.ownsRow base e 1 v l.length (Is l)
/-- A list's ints by their places. -/
def at' (l : List Int) (i : Nat) : Int := l.getD i 0
theorem at_get {l : List Int} {i : Nat} (h : i < l.length) : l[i]? = some (at' l i) := by
  unfold at'; rw [List.getD_eq_getElem?_getD, List.getElem?_eq_getElem h]; rfl
/-- The first n ints of a function. -/
def upto (n : Nat) (f : Nat → Int) : List Int := (List.range n).map f
theorem upto_length (n : Nat) (f : Nat → Int) : (upto n f).length = n := by simp [upto]
theorem upto_get {n : Nat} (f : Nat → Int) {i : Nat} (h : i < n) : (upto n f)[i]? = some (f i) := by simp [upto, h]
theorem upto_at (l : List Int) : upto l.length (at' l) = l := by
  refine List.ext_getElem? (fun i => ?_)
  by_cases h : i < l.length
  · rw [upto_get _ h, at_get h]
  · rw [List.getElem?_eq_none (by rw [upto_length]; omega), List.getElem?_eq_none (by omega)]
theorem at_upto {n : Nat} (f : Nat → Int) {i : Nat} (h : i < n) : at' (upto n f) i = f i := by
  have h1 := at_get (l := upto n f) (i := i) (by rw [upto_length]; exact h)
  rw [upto_get f h] at h1
  injection h1 with h1
  exact h1.symm

section
variable {w w' : World} {base : Nat} {e : TypeId} {v : Value} {l : List Int}
theorem ints_nil (w : World) (base : Nat) (e : TypeId) : ints w base e (.slice none 0 0) [] := World.ownsRow_nil _ _ _ _
theorem ints.draws (h : ints w base e v l) (n : Nat) : ints (w.drewN n) base e v l := h
theorem ints.only {S : Nat → Prop} (h : ints w base e v l) (k : Only S w w') (hv : ∀ i, v.ownBlock = some i → ¬ S i) : ints w' base e v l := own_only h k hv
theorem ints.below (h : ints w base e v l) (k : Below w.heap.size w w') : ints w' base e v l := h.only (S := fun _ => False) (Only.of_below k) (fun _ _ e => e)
theorem ints.form (h : ints w base e v l) : ∃ A cap, v = .slice A l.length cap := by
  rcases h.2 with ⟨rfl, h0⟩ | ⟨g, cap, _, rfl, _⟩
  · exact ⟨none, 0, by rw [h0]⟩
  · exact ⟨_, cap, rfl⟩
theorem ints.le (h : ints w base e v l) : ∃ A cap, v = .slice A l.length cap ∧ l.length ≤ cap := by
  rcases h.2 with ⟨rfl, h0⟩ | ⟨g, cap, _, rfl, _, _, hc, _⟩
  · exact ⟨none, 0, by rw [h0], by omega⟩
  · exact ⟨_, cap, rfl, hc⟩
theorem ints.lo (h : ints w base e v l) : ∀ i, v.ownBlock = some i → base ≤ i ∧ i < w.heap.size := fun i hi => World.ownsRow.lt h i hi
theorem ints.cell {g n cap : Nat} (h : ints w base e (.slice (some ⟨g, 0, none⟩) n cap) l) (j : Nat) (hj : j < l.length) : w.cell? ⟨g, j, none⟩ = some (.int .i64 (at' l j)) := by
  have e1 : n = l.length := by
    rcases h.2 with ⟨e0, _⟩ | ⟨g', c, _, e1, _⟩
    · cases e0
    · injection e1 with _ e2 _
  subst e1
  have := World.ownsRow.cellAt h j (by omega)
  rw [this, Is_get, at_get hj]; rfl
/-- It is a row that is read. -/
theorem ints.row {A : Option Addr} {n cap : Nat} (h : ints w base e (.slice A n cap) l) : row w A l.length (at' l) := by
  intro i hi
  rcases h.2 with ⟨e0, h0⟩ | ⟨g, c, _, e1, hb, _, hc, _⟩
  · omega
  · injection e1 with e1 e2 e3
    subst e1
    exact ⟨g, 0, rfl, (World.ownsRow.lt h g rfl).2, by rw [Nat.zero_add]; exact ints.cell h i hi⟩
/-- One int more: what an append's law leaves. -/
theorem ints_snoc {wr w1 : World} {v' : Value} {x : Int} {y : Value} (hb : base ≤ w.heap.size) (hbel : Below base w wr) (h : ints wr base e v l)
    (h' : w1.ownsRow base e 1 v' (l.length + 1) (Is l ++ [.int .i64 x])) (hg : (wr.alloc (.cells #[y] e)).grownBy w1 v.ownBlock) : ints w1 base e v' (l ++ [x]) ∧ Below base w w1 := by
  refine ⟨?_, ?_⟩
  · unfold ints; rw [Is_append]; simpa [Is] using h'
  · have hs := hbel.size
    exact (hbel.alloc (by omega) _).grown hg (by simp; omega) (fun k hk => (World.ownsRow.lt h k hk).1)
end

section
variable {P : Program} (w : World)
/-- Nothing is appended. -/
theorem run_append_none (t ty e : TypeId) (i : TypeInfo) (ht : P.underlying t = some (.slice e)) (hi : P.info? e = some i) (A : Option Addr) (n cap c : Nat) (hn : n ≤ cap) :
    (Builtin.append_ #[t, t] ty #[.slice A n cap, .slice none 0 c]).run P w = .ok (.slice A n cap) w := by
  have hf := run_firstCells_none (P := P) w i.size 0 0 c
  cases A with
  | none => simp [Builtin.append_, run_underlying ht, sizeOf, typeInfo, hi, Builtin.lenOf, hn, hf]
  | some a => simp [Builtin.append_, run_underlying ht, sizeOf, typeInfo, hi, Builtin.lenOf, hn, hf, storeCells]
theorem wpList_append_none {ops : Array Oper} {rest : List Oper} {o : Oper} {a : Act} {Q : Exit → Act → World → Prop} (hgd : o.guard = none) (s x : Operand) (t : TypeId)
    (ho : o.op = .call { callee := .builtin .append, args := #[s, x], argTypes := #[t, t] }) (e : TypeId) (i : TypeInfo) (ht : P.underlying t = some (.slice e)) (hi : P.info? e = some i)
    (A : Option Addr) (n cap c : Nat) (hn : n ≤ cap) (hs : a.eval s = .slice A n cap) (hx : a.eval x = .slice none 0 c) (h : wpList P ops Q rest (a.put o.dst (.slice A n cap)) w) : wpList P ops Q (o :: rest) a w := by
  refine wpList_plain hgd fun K hK => ?_
  have hr := run_append_none (P := P) w t o.type e i ht hi A n cap c hn
  unfold Oper.wp execOp
  simp only [ho, resolve, invoke, builtin, Sem.run_bind, Sem.run_pure, Result.andThen_ok, List.map_toArray, List.map_cons, List.map_nil, hs, hx, hr]
  exact hK _ _ h
/-- The ints of a row are appended, wherever it lies. -/
theorem wpList_append_row {ops : Array Oper} {rest : List Oper} {o : Oper} {a : Act} {Q : Exit → Act → World → Prop} (hgd : o.guard = none) (s x : Operand) (t : TypeId)
    (ho : o.op = .call { callee := .builtin .append, args := #[s, x], argTypes := #[t, t] }) (base : Nat) (e : TypeId) (i : TypeInfo) (ht : P.underlying t = some (.slice e)) (hi : P.info? e = some i) (hz : i.zero = some (.int .i64 0)) (hsize : i.size = 1) (hby : i.bytes = 8)
    (v : Value) (l : List Int) (hs : a.eval s = v) (hown : ints w base e v l) (A : Option Addr) (m c : Nat) (f : Nat → Int) (hx : a.eval x = .slice A m c) (hr : row w A m f)
    (hlen : l.length + m ≤ 1000000000) (hbase : base ≤ w.heap.size)
    (h : ∀ v' w', ints w' base e v' (l ++ upto m f) → w.grownBy w' v.ownBlock → (v'.ownBlock = v.ownBlock ∨ v'.ownBlock = some w.heap.size) → wpList P ops Q rest (a.put o.dst v') w') : wpList P ops Q (o :: rest) a w := by
  cases A with
  | none =>
    have hm : m = 0 := by
      rcases Nat.eq_zero_or_pos m with h0 | h0
      · exact h0
      · obtain ⟨_, _, e0, _⟩ := hr 0 h0; cases e0
    subst hm
    obtain ⟨A, cap, hv, hc⟩ := hown.le
    subst hv
    have hu : l ++ upto 0 f = l := by simp [upto]
    refine wpList_append_none w hgd s x t ho e i ht hi A l.length cap c hc hs hx (h _ _ (by rw [hu]; exact hown) (World.grownBy.refl _ _) (.inl rfl))
  | some ad =>
    refine wpList_append_own_at w hgd s x t ho base e i (.int .i64 0) 1 8 ht hi hz hsize hby rfl (by omega) v l.length (Is l) hs hown ad m c (Is (upto m f)) hx (by rw [Is_length, upto_length]; omega) ?_ (Is_one _) ?_ ?_ hbase ?_
    · intro j u hj
      rw [Is_get] at hj
      have hjm : j < m := by
        rcases Nat.lt_or_ge j m with h1 | h1
        · exact h1
        · rw [List.getElem?_eq_none (by rw [upto_length]; exact h1)] at hj; cases hj
      rw [upto_get f hjm] at hj
      obtain ⟨b, off, e0, _, hc⟩ := hr j hjm
      injection e0 with e0
      subst e0
      have e3 : ((⟨b, off, none⟩ : Addr).add j) = ⟨b, off + j, none⟩ := by simp [Addr.add]
      rw [e3, hc]
      exact hj
    · unfold maxLen; omega
    · omega
    · intro v' w' h1 h2 _ h4
      refine h v' w' ?_ h2 h4
      unfold ints
      rw [Is_append, List.length_append, upto_length]
      exact h1
end
end Go.Proofs.Ytfipagndpoahlaa.Ko
