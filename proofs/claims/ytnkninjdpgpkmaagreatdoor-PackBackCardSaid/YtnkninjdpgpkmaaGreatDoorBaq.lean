/-
  'copy' into a row of the call's own, from a string and from a slice, and 'clear' of such a row: the row behind it; nothing else has changed.
  Conditions: as each theorem says.
-/
import Derived.Test.YtnkninjdpgpkmaaGreatDoorBan
import Derived.Test.YtnkninjdpgpkmaaGreatDoorBaa
import Derived.Test.YtnkninjdpgpkmaaGreatDoorBao
import Derived.Test.YtnkninjdpgpkmaaGreatDoorBap
import Derived.Lib.SliceRun
import Derived.Laws.CopyOwn
namespace Go.Proofs.YtnkninjdpgpkmaaGreatDoor.Wc
open Go.RowKit Go.Proofs.YtnkninjdpgpkmaaGreatDoor.Vm Go.Proofs.YtnkninjdpgpkmaaGreatDoor.Bw Go.Proofs.YtnkninjdpgpkmaaGreatDoor.Wr

theorem undrew {S : Nat → Prop} {a b : World} (h : Only S a.drew b) : Only S a b := ⟨h.os, h.tape, h.output, h.size, h.block⟩
theorem undraws {S : Nat → Prop} {a b : World} {n : Nat} (h : Only S (a.drewN n) b) : Only S a b := ⟨h.os, h.tape, h.output, h.size, h.block⟩
/-- A row of bytes of the call's own. -/
def byts (w : World) (base : Nat) (e : TypeId) (v : Value) (l : List UInt8) : Prop := w.ownsRow base e 1 v l.length (Bs l)
/-- The blocks of a value's row. -/
def of (v : Value) (k : Nat) : Prop := v.ownBlock = some k

section
variable {w w' : World} {base : Nat} {e : TypeId} {v : Value} {l : List UInt8}
theorem byts.draws (h : byts w base e v l) (n : Nat) : byts (w.drewN n) base e v l := h
theorem byts.only {S : Nat → Prop} (h : byts w base e v l) (k : Only S w w') (hv : ∀ i, v.ownBlock = some i → ¬ S i) : byts w' base e v l := own_only h k hv
theorem byts.form (h : byts w base e v l) : ∃ A cap, v = .slice A l.length cap := by
  rcases h.2 with ⟨rfl, h0⟩ | ⟨g, cap, _, rfl, _⟩
  · exact ⟨none, 0, by rw [h0]⟩
  · exact ⟨_, cap, rfl⟩
theorem byts.block (h : byts w base e v l) (h0 : 0 < l.length) : ∃ g cap, v = .slice (some ⟨g, 0, none⟩) l.length cap ∧ base ≤ g ∧ g < w.heap.size ∧ l.length ≤ cap := by
  have h' := h
  rcases h.2 with ⟨rfl, h1⟩ | ⟨g, cap, _, rfl, hb, _, hc, _⟩
  · omega
  · exact ⟨g, cap, rfl, hb, (World.ownsRow.lt h' g rfl).2, hc⟩
theorem Bs_get (l : List UInt8) (j : Nat) : (Bs l)[j]? = l[j]?.map B := by simp [Bs]
/-- What is read there. -/
theorem byts.cell {g cap n : Nat} (h : byts w base e (.slice (some ⟨g, 0, none⟩) n cap) l) (hn : n = l.length) (j : Nat) (hj : j < n) : w.cell? ⟨g, j, none⟩ = l[j]?.map B := by
  subst hn
  have := World.ownsRow.cellAt h j (by omega)
  rw [this, Bs_get]
end

theorem take_splice {α : Type} (L : List α) (off N : Nat) (c : List α) (h : off + c.length ≤ N) (hN : N ≤ L.length) : (splice L off c).take N = splice (L.take N) off c := by
  have hl : (L.take N).length = N := by rw [List.length_take]; omega
  apply List.ext_getElem?
  intro i
  rw [List.getElem?_take, splice_get L off c (by omega), splice_get (L.take N) off c (by omega), List.getElem?_take]
  by_cases h1 : i < N
  · rw [if_pos h1, if_pos h1]
  · rw [if_neg h1, if_neg (by omega), if_neg (by omega), if_neg h1]

/-- The row where other bytes are laid over it. -/
theorem byts.setRow {w : World} {base : Nat} {e : TypeId} {g n cap : Nat} {l c : List UInt8} {cur : Array Value} {off : Nat} (h : byts w base e (.slice (some ⟨g, 0, none⟩) n cap) l) (hn : n = l.length) (hg : w.heap[g]? = some (.cells cur e (0, 0))) (hfit : off + c.length ≤ n) :
    byts (w.setRow g (cur.toList.take off ++ Bs c ++ cur.toList.drop (off + c.length)).toArray) base e (.slice (some ⟨g, 0, none⟩) n cap) (splice l off c) ∧ Only (of (.slice (some ⟨g, 0, none⟩) n cap)) w (w.setRow g (cur.toList.take off ++ Bs c ++ cur.toList.drop (off + c.length)).toArray) := by
  subst hn
  have h' := h
  rcases h.2 with ⟨e0, _⟩ | ⟨g', cap', cur', e1, hb, hg', h1, h2, h3, h4⟩
  · cases e0
  · injection e1 with e1 _ e2
    injection e1 with e1
    injection e1 with e1 _ _
    subst e1; subst e2
    rw [hg] at hg'
    injection hg' with hg'
    injection hg' with hg'
    subst hg'
    have hsz : cur.toList.length = cap := by rw [Array.length_toList]; omega
    have e3 : cur.toList.take off ++ Bs c ++ cur.toList.drop (off + c.length) = splice cur.toList off (Bs c) := by
      unfold splice; rw [List.append_assoc, Bs_length]
    rw [e3]
    have hfit' : off + (Bs c).length ≤ cur.toList.length := by rw [Bs_length, hsz]; omega
    have hls : (splice l off c).length = l.length := splice_len l off c hfit
    refine ⟨?_, ⟨rfl, rfl, rfl, by simp [World.setRow], fun k _ hk => setRow_other w g k _ (fun he => hk (by subst he; rfl))⟩⟩
    refine ⟨by rw [Bs_length, hls]; omega, .inr ⟨g, cap, (splice cur.toList off (Bs c)).toArray, by rw [hls], hb, setRow_heap w g _ _ e _ hg, by omega, h2, ?_, ?_⟩⟩
    · rw [List.size_toArray, splice_len _ _ _ hfit', hsz]; omega
    · have h5 : cur.toList.take l.length = Bs l := by simpa using h4
      rw [hls, Nat.mul_one, take_splice _ _ _ _ (by rw [Bs_length]; omega) (by omega), h5]
      unfold Bs
      rw [splice_map]

theorem Bs_one (l : List UInt8) : ∀ v ∈ Bs l, v.oneCell' = true := by
  intro v hv
  simp only [Bs, List.mem_map] at hv
  obtain ⟨b, _, rfl⟩ := hv
  rfl

section
variable {P : Program}
/-- copy(d, s), s a string: as many bytes as the shorter one has. -/
theorem run_copy_str (w : World) (dT sT ty e : TypeId) (hu : P.underlying dT = some (.slice e)) (hs : (P.info? e).map (·.size) = some 1) (dp : Option Addr) (dLen dCap : Nat) (t : ByteArray) {n : Nat} (hn : n = min t.size dLen)
    {base : Nat} {v : Value} {l : List UInt8} (h : byts w base e v l) (off : Nat) (hpos : 0 < n → ∃ g, v.ownBlock = some g ∧ dp = some ⟨g, off, none⟩) (hfit : off + n ≤ l.length) :
    ∃ w', (Builtin.copy_ #[dT, sT] ty #[.slice dp dLen dCap, .string t]).run P w = .ok (goInt n) w' ∧ byts w' base e v (splice l off (t.data.toList.take n)) ∧ Only (of v) w w' := by
  have hl : (t.data.toList.take n).length = n := by
    rw [List.length_take, Array.length_toList]
    have : t.data.size = t.size := rfl
    omega
  cases hq : P.info? e with
  | none => simp [hq] at hs
  | some i =>
  have hmin : Nat.min t.size dLen = n := hn.symm
  have htk : List.take n (List.map (fun b : UInt8 => Value.int IntKind.u8 (b.toNat : Int)) t.data.toList) = Bs (t.data.toList.take n) := by
    unfold Bs B; rw [List.map_take]
  by_cases h0 : n = 0
  · subst h0
    refine ⟨w, ?_, by simpa [splice] using h, Only.refl _ _⟩
    cases dp <;> simp [Builtin.copy_, run_underlying hu, Builtin.lenOf, Builtin.firstCells, sizeOf, typeInfo, hq, hmin, storeCells]
  · obtain ⟨g, hg, rfl⟩ := hpos (by omega)
    obtain ⟨g', cap, hv, _, _, _⟩ := h.block (by omega)
    subst hv
    obtain rfl : g' = g := by simpa [Value.ownBlock] using hg
    have h' := h
    rcases h.2 with ⟨e0, _⟩ | ⟨g2, cap2, cur, e1, _, hc, h1, _, h3, _⟩
    · cases e0
    · injection e1 with e1 _ e2
      injection e1 with e1
      injection e1 with e1 _ _
      subst e1; subst e2
      have hst := run_storeCells_at P g' off e (Bs (t.data.toList.take n)) 0 cur w hc (by rw [Bs_length, hl]; omega) (Bs_one _)
      rw [Bs_length] at hst
      simp only [Nat.add_zero] at hst
      refine ⟨_, ?_, h'.setRow (off := off) (c := t.data.toList.take n) rfl hc (by rw [hl]; exact hfit)⟩
      simp [Builtin.copy_, run_underlying hu, Builtin.lenOf, Builtin.firstCells, sizeOf, typeInfo, hq, hmin]
      rw [htk, hst]
      simp [Result.andThen]
/-- .. as a law at the call. -/
theorem wpList_copy_str {w : World} {ops : Array Oper} {rest : List Oper} {o : Oper} {a : Act} {Q : Exit → Act → World → Prop} (hgd : o.guard = none) (d s : Operand) (dT sT : TypeId)
    (ho : o.op = .call { callee := .builtin .copy, args := #[d, s], argTypes := #[dT, sT] }) (e : TypeId) (hu : P.underlying dT = some (.slice e)) (hs : (P.info? e).map (·.size) = some 1)
    (dp : Option Addr) (dLen dCap : Nat) (hd : a.eval d = .slice dp dLen dCap) (t : ByteArray) (ht : a.eval s = .string t) (n : Nat) (hn : n = min t.size dLen)
    (base : Nat) (v : Value) (l : List UInt8) (h : byts w base e v l) (off : Nat) (hpos : 0 < n → ∃ g, v.ownBlock = some g ∧ dp = some ⟨g, off, none⟩) (hfit : off + n ≤ l.length)
    (hk : ∀ w', Hid (byts w' base e v (splice l off (t.data.toList.take n))) → Hid (Only (of v) w w') → wpList P ops Q rest (a.put o.dst (goInt n)) w') : wpList P ops Q (o :: rest) a w := by
  refine wpList_plain hgd fun K hK => ?_
  obtain ⟨w', hr, h1, h2⟩ := run_copy_str (P := P) w dT sT o.type e hu hs dp dLen dCap t hn h off hpos hfit
  unfold Oper.wp execOp
  simp only [ho, resolve, invoke, builtin, Sem.run_bind, Sem.run_pure, Result.andThen_ok, List.map_toArray, List.map_cons, List.map_nil, hd, ht, hr]
  exact hK _ _ (hk w' (Lib.hid h1) (Lib.hid h2))

/-- copy(d, s), s a slice that is read as src. -/
theorem run_copy_sl (w : World) (dT sT ty e : TypeId) (hu : P.underlying dT = some (.slice e)) (hs : (P.info? e).map (·.size) = some 1) (dp sp : Option Addr) (dLen dCap sLen sCap : Nat) {n : Nat} (hn : n = min sLen dLen)
    {base : Nat} {v : Value} {l : List UInt8} (h : byts w base e v l) (off : Nat) (src : List UInt8) (hl : src.length = n)
    (hpos : 0 < n → (∃ g, v.ownBlock = some g ∧ dp = some ⟨g, off, none⟩) ∧ ∃ g o, sp = some ⟨g, o, none⟩ ∧ ∀ j, j < n → w.cell? ⟨g, o + j, none⟩ = src[j]?.map B) (hfit : off + n ≤ l.length) :
    ∃ w', (Builtin.copy_ #[dT, sT] ty #[.slice dp dLen dCap, .slice sp sLen sCap]).run P w = .ok (goInt n) w' ∧ byts w' base e v (splice l off src) ∧ Only (of v) w w' := by
  by_cases h0 : n = 0
  · have hsn : src = [] := List.eq_nil_of_length_eq_zero (by omega)
    rw [hsn, h0]
    exact ⟨w, run_copy_none (P := P) w dT sT ty e dp sp dLen dCap sLen sCap hu hs (by rw [← h0]; exact hn.symm), by simpa [splice] using h, Only.refl _ _⟩
  · obtain ⟨⟨g, hg, rfl⟩, gs, os, rfl, hsrc⟩ := hpos (by omega)
    obtain ⟨g', cap, hv, _, _, _⟩ := h.block (by omega)
    subst hv
    obtain rfl : g' = g := by simpa [Value.ownBlock] using hg
    have h' := h
    rcases h.2 with ⟨e0, _⟩ | ⟨g2, cap2, cur, e1, _, hc, h1, _, h3, _⟩
    · cases e0
    · injection e1 with e1 _ e2
      injection e1 with e1
      injection e1 with e1 _ _
      subst e1; subst e2
      have hlen : (Bs src).length = n := by rw [Bs_length, hl]
      have hrun := run_copy_row (P := P) w dT sT ty e g' off dLen dCap ⟨gs, os, none⟩ sLen sCap cur e (Bs src) hu hs hc (by rw [hlen]; exact hn)
        (fun j u hj => by
          have hjl : j < n := by
            rw [← hlen]; exact (List.getElem?_eq_some_iff.1 hj).1
          have hadd : (⟨gs, os, none⟩ : Addr).add j = ⟨gs, os + j, none⟩ := by unfold Addr.add; split <;> simp_all
          rw [hadd, hsrc j hjl, ← Bs_get]; exact hj) (by rw [hlen]; omega) (Bs_one _)
      rw [Bs_length, hl] at hrun
      refine ⟨_, hrun, ?_⟩
      have k := h'.setRow (off := off) (c := src) rfl hc (by rw [hl]; exact hfit)
      rw [hl] at k
      exact k
theorem wpList_copy_sl {w : World} {ops : Array Oper} {rest : List Oper} {o : Oper} {a : Act} {Q : Exit → Act → World → Prop} (hgd : o.guard = none) (d s : Operand) (dT sT : TypeId)
    (ho : o.op = .call { callee := .builtin .copy, args := #[d, s], argTypes := #[dT, sT] }) (e : TypeId) (hu : P.underlying dT = some (.slice e)) (hs : (P.info? e).map (·.size) = some 1)
    (dp sp : Option Addr) (dLen dCap sLen sCap : Nat) (hd : a.eval d = .slice dp dLen dCap) (ht : a.eval s = .slice sp sLen sCap) (n : Nat) (hn : n = min sLen dLen)
    (base : Nat) (v : Value) (l : List UInt8) (h : byts w base e v l) (off : Nat) (src : List UInt8) (hl : src.length = n)
    (hpos : 0 < n → (∃ g, v.ownBlock = some g ∧ dp = some ⟨g, off, none⟩) ∧ ∃ g o, sp = some ⟨g, o, none⟩ ∧ ∀ j, j < n → w.cell? ⟨g, o + j, none⟩ = src[j]?.map B) (hfit : off + n ≤ l.length)
    (hk : ∀ w', Hid (byts w' base e v (splice l off src)) → Hid (Only (of v) w w') → wpList P ops Q rest (a.put o.dst (goInt n)) w') : wpList P ops Q (o :: rest) a w := by
  refine wpList_plain hgd fun K hK => ?_
  obtain ⟨w', hr, h1, h2⟩ := run_copy_sl (P := P) w dT sT o.type e hu hs dp sp dLen dCap sLen sCap hn h off src hl hpos hfit
  unfold Oper.wp execOp
  simp only [ho, resolve, invoke, builtin, Sem.run_bind, Sem.run_pure, Result.andThen_ok, List.map_toArray, List.map_cons, List.map_nil, hd, ht, hr]
  exact hK _ _ (hk w' (Lib.hid h1) (Lib.hid h2))

/-- append(b, s...) in a region that draws its order. -/
theorem step_str_at (w : World) {ops : Array Oper} {o : Oper} {a : Act} {K : Act → World → Prop} {Q : Exit → Act → World → Prop} {E : Prop} (hgd : o.guard = none) (sl x : Operand) (t u : TypeId)
    (ho : o.op = .call { callee := .builtin .append, args := #[sl, x], argTypes := #[t, u] })
    (base : Nat) (e : TypeId) (i : TypeInfo) (ht : P.underlying t = some (.slice e)) (hu : P.underlying u = some .string) (hi : P.info? e = some i) (hz : i.zero = some (.int .u8 0))
    (hsize : i.size = 1) (hby : i.bytes = 1) (v : Value) (n : Nat) (xs : List Value) (hs : a.eval sl = v) (hown : w.ownsRow base e 1 v n xs) (s : ByteArray) (hx : a.eval x = .string s)
    (h63 : n + s.size ≤ maxLen) (hbytes : n + s.size ≤ 140737488355328) (hbase : base ≤ w.heap.size)
    (h : ∀ A cap w', w'.ownsRow base e 1 (.slice A (n + s.size) cap) (n + s.size) (xs ++ Lib.strCells s) → w.grownBy w' v.ownBlock → ((Value.slice A (n + s.size) cap).ownBlock = v.ownBlock ∨ (Value.slice A (n + s.size) cap).ownBlock = some w.heap.size) → K (a.put o.dst (.slice A (n + s.size) cap)) w') :
    if Region.wanted o (yielded ops a.tmps) = true then Oper.wp P o a w K Q else E := by
  have hw : Region.wanted o (yielded ops a.tmps) = true := by simp [Region.wanted, hgd]
  rw [if_pos hw]
  obtain ⟨v', w', hr, h2, h3, h4⟩ := Go.Proofs.YtnkninjdpgpkmaaGreatDoor.Ba.run_str_at (P := P) w base t u o.type e i ht hu hi hz hsize hby v n xs hown s h63 hbytes hbase
  obtain ⟨A, cap, rfl⟩ : ∃ A cap, v' = .slice A (n + s.size) cap := by
    rcases h2.2 with ⟨rfl, h0⟩ | ⟨g, cap, _, rfl, _⟩
    · exact ⟨none, 0, by rw [h0]⟩
    · exact ⟨_, cap, rfl⟩
  unfold Oper.wp execOp
  simp only [ho, resolve, invoke, builtin, Sem.run_bind, Sem.run_pure, Result.andThen_ok, List.map_toArray, List.map_cons, List.map_nil, hs, hx, hr]
  exact h A cap w' h2 h3 h4

/-- clear(b). -/
theorem run_clear_own (w : World) (t e ty : TypeId) (ht : P.underlying t = some (.slice e)) (hv : ∀ w, (zeroValue e).run P w = .ok (.int .u8 0) w) {base : Nat} {v : Value} {l : List UInt8} (h : byts w base e v l) :
    ∃ w', (Builtin.clear_ #[t] ty #[v]).run P w = .ok (.tuple #[]) w' ∧ byts w' base e v (List.replicate l.length 0) ∧ Only (of v) w w' := by
  by_cases h0 : l.length = 0
  · have hl : l = [] := List.eq_nil_of_length_eq_zero h0
    subst hl
    refine ⟨w, ?_, h, Only.refl _ _⟩
    rcases h.2 with ⟨rfl, _⟩ | ⟨g, cap, _, rfl, _⟩
    · simp [Builtin.clear_, run_underlying ht]
    · simp [Builtin.clear_, run_underlying ht]
  · obtain ⟨g, cap, hv', _, _, _⟩ := h.block (by omega)
    subst hv'
    have h' := h
    rcases h.2 with ⟨e0, _⟩ | ⟨g2, cap2, cur, e1, _, hc, h1, _, h3, _⟩
    · cases e0
    · injection e1 with e1 _ e2
      injection e1 with e1
      injection e1 with e1 _ _
      subst e1; subst e2
      obtain ⟨n, hn⟩ : ∃ n, l.length = n + 1 := ⟨l.length - 1, by omega⟩
      have hzc : (Builtin.zeroCells (Value.int .u8 0).cells (n + 1)).toList = Bs (List.replicate (n + 1) 0) := by
        simp [Builtin.zeroCells, Value.cells, Bs, B]
        apply List.ext_getElem
        · simp
        · intro i h1 h2
          simp [Nat.mod_one]
      have hst := run_storeCells_at P g 0 e (Bs (List.replicate (n + 1) 0)) 0 cur w hc (by rw [Bs_length, List.length_replicate]; omega) (Bs_one _)
      rw [Bs_length] at hst
      simp only [Nat.add_zero] at hst
      have k := h'.setRow (off := 0) (c := List.replicate (n + 1) 0) rfl hc (by rw [List.length_replicate]; omega)
      have e2 : splice l 0 (List.replicate (n + 1) 0) = List.replicate l.length 0 := by
        unfold splice
        rw [List.take_zero, List.nil_append, List.length_replicate, Nat.zero_add, List.drop_eq_nil_of_le (by omega), List.append_nil, hn]
      rw [e2] at k
      refine ⟨_, ?_, k⟩
      rw [hn]
      simp only [Builtin.clear_, run_underlying ht, hv, hzc, hst, List.getElem?_toArray, List.getElem?_cons_zero, Sem.run_bind, Result.andThen_ok, Sem.run_pure]
theorem wpList_clear {w : World} {ops : Array Oper} {rest : List Oper} {o : Oper} {a : Act} {Q : Exit → Act → World → Prop} (hgd : o.guard = none) (d : Operand) (dT : TypeId)
    (ho : o.op = .call { callee := .builtin .clear, args := #[d], argTypes := #[dT] }) (e : TypeId) (hu : P.underlying dT = some (.slice e)) (hv : ∀ w, (zeroValue e).run P w = .ok (.int .u8 0) w)
    (base : Nat) (v : Value) (hd : a.eval d = v) (l : List UInt8) (h : byts w base e v l)
    (hk : ∀ w', Hid (byts w' base e v (List.replicate l.length 0)) → Hid (Only (of v) w w') → wpList P ops Q rest (a.put o.dst (.tuple #[])) w') : wpList P ops Q (o :: rest) a w := by
  refine wpList_plain hgd fun K hK => ?_
  obtain ⟨w', hr, h1, h2⟩ := run_clear_own (P := P) w dT e o.type hu hv h
  unfold Oper.wp execOp
  simp only [ho, resolve, invoke, builtin, Sem.run_bind, Sem.run_pure, Result.andThen_ok, List.map_toArray, List.map_cons, List.map_nil, hd, hr]
  exact hK _ _ (hk w' (Lib.hid h1) (Lib.hid h2))
end
end Go.Proofs.YtnkninjdpgpkmaaGreatDoor.Wc
