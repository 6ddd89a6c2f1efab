/-
  window: a window in memory; isNone, Len, and what stores in place of the oldest bytes.
  A row of bytes that a call goes on appending to, and that begins anywhere in its block.
  '[]byte(s)' that is appended to, byte by byte: the row, wherever it lies.
  Conditions: as each theorem says.
-/
import Derived.Test.YtnkninjdpgpkmaaGreatDoorBaq
import Derived.Test.YtnkninjdpgpkmaaGreatDoorBas
import Derived.StillTailTactics
import Derived.BigRegion
import Derived.Deep.RegionLaw
import Derived.WalkSpells
import Derived.WalkLawsBesides
import Derived.Test.YtnkninjdpgpkmaaGreatDoorRows
import Derived.Lib.AppendStr
import Derived.Laws.IdiomStrings
namespace Go.Proofs.YtnkninjdpgpkmaaGreatDoor.Ww
open Go.RowKit Go.Proofs.YtnkninjdpgpkmaaGreatDoor.Vm Go.Proofs.YtnkninjdpgpkmaaGreatDoor.Bw Go.Proofs.YtnkninjdpgpkmaaGreatDoor.Br Go.Proofs.YtnkninjdpgpkmaaGreatDoor.Wr Go.Proofs.YtnkninjdpgpkmaaGreatDoor.Wc

/-- A window at block g whose slice is v, which begins at x. -/
def wb (w : World) (g : Nat) (v : Value) (x : Nat) : Prop := Blk w g 122 #[.pointer (some ⟨g, 0, none⟩), v, .int .i64 x]
/-- .. its ring is l. -/
structure win (base : Nat) (w : World) (g : Nat) (v : Value) (l : List UInt8) (x : Nat) : Prop where
  b : wb w g v x
  o : byts w base 5 v l
  r : ring 32768 l x
  g0 : base ≤ g
/-- What such a window may write. -/
def own (g : Nat) (v : Value) (k : Nat) : Prop := k = g ∨ v.ownBlock = some k
/-- Where a row lies behind it. -/
def later (w : World) (v v' : Value) : Prop := v'.ownBlock = v.ownBlock ∨ ∃ k, w.heap.size ≤ k ∧ v'.ownBlock = some k

section
variable {w w' : World} {g : Nat} {v : Value} {x : Nat}
theorem wb.c0 (h : wb w g v x) : w.cell? ⟨g, 0, none⟩ = some (.pointer (some ⟨g, 0, none⟩)) := Blk.cell h 0
theorem wb.c1 (h : wb w g v x) : w.cell? ⟨g, 1, none⟩ = some v := Blk.cell h 1
theorem wb.c2 (h : wb w g v x) : w.cell? ⟨g, 2, none⟩ = some (.int .i64 x) := Blk.cell h 2
theorem wb.f1 (h : wb w g v x) : w.frozen? ⟨g, 1, none⟩ = false := Blk.frozen h 1
theorem wb.f2 (h : wb w g v x) : w.frozen? ⟨g, 2, none⟩ = false := Blk.frozen h 2
theorem wb.lt (h : wb w g v x) : g < w.heap.size := Blk.lt h
theorem wb.ring (h : wb w g v x) (v' : Value) : wb (w.setCell ⟨g, 1, none⟩ v') g v' x := Blk.store h 1 _
theorem wb.next (h : wb w g v x) {y : Nat} {z : Int} (hz : z = (y : Int)) : wb (w.setCell ⟨g, 2, none⟩ (.int .i64 z)) g v y := by subst hz; exact Blk.store h 2 _
theorem wb.only {S : Nat → Prop} (h : wb w g v x) (k : Only S w w') (hg : ¬ S g) : wb w' g v x := Blk.only h k hg
theorem wb.draws (h : wb w g v x) (n : Nat) : wb (w.drewN n) g v x := h
theorem wb.apart {base : Nat} {u : Value} {l : List UInt8} (h : wb w g v x) (o : byts w base 5 u l) : ∀ i, u.ownBlock = some i → i ≠ g := own_apart o h (by decide)
end

section
variable {base : Nat} {w w' : World} {g : Nat} {v : Value} {l : List UInt8} {x : Nat}
theorem win.draws (h : win base w g v l x) (n : Nat) : win base (w.drewN n) g v l x := ⟨h.b, h.o, h.r, h.g0⟩
theorem win.only {S : Nat → Prop} (h : win base w g v l x) (k : Only S w w') (hS : ∀ i, own g v i → ¬ S i) : win base w' g v l x :=
  ⟨h.b.only k (hS g (.inl rfl)), h.o.only k (fun i hi => hS i (.inr hi)), h.r, h.g0⟩
theorem win.lo (h : win base w g v l x) : ∀ i, own g v i → base ≤ i := by
  rintro i (rfl | hi)
  · exact h.g0
  · exact (World.ownsRow.lt h.o i hi).1
theorem win.hi (h : win base w g v l x) : ∀ i, own g v i → i < w.heap.size := by
  rintro i (rfl | hi)
  · exact h.b.lt
  · exact (World.ownsRow.lt h.o i hi).2
theorem win.below (h : win base w g v l x) (k : Below w.heap.size w w') : win base w' g v l x :=
  h.only (S := fun _ => False) (Only.of_below k) (fun _ _ e => e)
theorem win.b0 (h : win base w g v l x) : base ≤ w.heap.size := by have := h.g0; have := h.b.lt; omega
end

theorem infoW : (Tryz.prog.info? 122).isSome = true := by kernel_rfl
theorem info8 : (Tryz.prog.info? 5).map (fun i => (i.zero, i.size, i.bytes)) = some (some (.int .u8 0), 1, 1) := by kernel_rfl
theorem size8 : (Tryz.prog.info? 5).map (·.size) = some 1 := by kernel_rfl
theorem none_nil (w : World) : Calls Tryz.prog 70 #[.pointer none] w fun e w' => e = .returned (.bool true) ∧ w = w' := by
  go_enter Tryz.func70, Tryz.ntmps70
  go_wp2
  go_ret
  exact ⟨rfl, rfl⟩
theorem none_any {w : World} {g : Nat} {v : Value} {x : Nat} (h : wb w g v x) : Calls Tryz.prog 70 #[.pointer (some ⟨g, 0, none⟩)] w fun e w' => e = .returned (.bool false) ∧ w = w' := by
  have c0 := h.c0
  obtain ⟨j, hj⟩ := Option.isSome_iff_exists.1 infoW
  have he := run_neq_same w ⟨g, 0, none⟩ Tryz.underlying60 hj
  clear hj
  go_enter Tryz.func70, Tryz.ntmps70
  go_wp2
  go_ret
  exact ⟨rfl, rfl⟩
/-- A window that New did not return. -/
theorem none_zero {w : World} {g : Nat} (c0 : w.cell? ⟨g, 0, none⟩ = some (.pointer none)) : Calls Tryz.prog 70 #[.pointer (some ⟨g, 0, none⟩)] w fun e w' => e = .returned (.bool true) ∧ w = w' := by
  have he := run_neq_nil w ⟨g, 0, none⟩ Tryz.underlying60
  go_enter Tryz.func70, Tryz.ntmps70
  go_wp2
  go_ret
  exact ⟨rfl, rfl⟩
end Go.Proofs.YtnkninjdpgpkmaaGreatDoor.Ww
namespace Go.Proofs.YtnkninjdpgpkmaaGreatDoor.Ia
open Go.RowKit Go.Lib Go.Proofs.YtnkninjdpgpkmaaGreatDoor.Vm Go.Proofs.YtnkninjdpgpkmaaGreatDoor.Vo Go.Proofs.YtnkninjdpgpkmaaGreatDoor.Bw Go.Proofs.YtnkninjdpgpkmaaGreatDoor.Wr Go.Proofs.YtnkninjdpgpkmaaGreatDoor.Wc Go.Proofs.YtnkninjdpgpkmaaGreatDoor.Ww

/-- A row of bytes, wherever it begins; a row of none, without room, may be anywhere. -/
def rdy (w : World) (v : Value) (l : List UInt8) : Prop :=
  (l = [] ∧ ∃ A, v = .slice A 0 0) ∨ ∃ b o cap cur, v = .slice (some ⟨b, o, none⟩) l.length cap ∧ Blk w b 5 cur ∧ 0 < cap ∧ l.length ≤ cap ∧ o + cap ≤ cur.size ∧ (cur.toList.drop o).take l.length = Bs l
/-- The block that it may write. -/
def ofR (v : Value) (k : Nat) : Prop := ∃ o n cap, v = .slice (some ⟨k, o, none⟩) n cap ∧ 0 < cap
section
variable {w w' : World} {v : Value} {l : List UInt8}
theorem rdy_nil (w : World) : rdy w (.slice none 0 0) [] := .inl ⟨rfl, none, rfl⟩
theorem rdy.blk (h : rdy w v l) {i : Nat} (hi : ofR v i) : ∃ cur, Blk w i 5 cur := by
  obtain ⟨o, n, cap, rfl, hc⟩ := hi
  rcases h with ⟨_, A, e⟩ | ⟨b, o', cap', cur, e, hb, _⟩
  · injection e with _ _ e; omega
  · injection e with e _ _
    injection e with e
    injection e with e _ _
    subst e
    exact ⟨cur, hb⟩
theorem rdy.lt (h : rdy w v l) {i : Nat} (hi : ofR v i) : i < w.heap.size := by
  obtain ⟨cur, hb⟩ := h.blk hi
  exact hb.lt
theorem rdy.only {S : Nat → Prop} (h : rdy w v l) (k : Only S w w') (hv : ∀ i, ofR v i → ¬ S i) : rdy w' v l := by
  rcases h with h | ⟨b, o, cap, cur, e, hb, hc, h1, h2, h3⟩
  · exact .inl h
  · exact .inr ⟨b, o, cap, cur, e, hb.only k (hv b ⟨o, l.length, cap, e, hc⟩), hc, h1, h2, h3⟩
theorem rdy.below (h : rdy w v l) (k : Below w.heap.size w w') : rdy w' v l := h.only (S := fun _ => False) (Only.of_below k) (fun _ _ e => e)
theorem rdy.draws (h : rdy w v l) (n : Nat) : rdy (w.drewN n) v l := h
theorem rdy.form (h : rdy w v l) : ∃ A cap, v = .slice A l.length cap ∧ l.length ≤ cap ∧ (0 < l.length → ∃ b o, A = some ⟨b, o, none⟩ ∧ b < w.heap.size ∧ ∀ j, j < l.length → w.cell? ⟨b, o + j, none⟩ = l[j]?.map B) := by
  rcases h with ⟨rfl, A, rfl⟩ | ⟨b, o, cap, cur, e, hb, hc, h1, h2, h3⟩
  · exact ⟨A, 0, rfl, Nat.le_refl _, fun e => absurd e (by simp)⟩
  · refine ⟨_, cap, e, h1, fun _ => ⟨b, o, rfl, hb.lt, fun j hj => ?_⟩⟩
    rw [hb.cell]
    have e1 := congrArg (·[j]?) h3
    simp only [List.getElem?_take, List.getElem?_drop, if_pos hj, Bs_get] at e1
    rw [← e1, Array.getElem?_toList]
/-- Bytes are laid behind. -/
theorem rdy_room {b o cap n : Nat} {cur : Array Value} {c : List UInt8} (hb : Blk w b 5 cur) (hn : n = l.length) (h1 : l.length + c.length ≤ cap) (h2 : o + cap ≤ cur.size) (h3 : (cur.toList.drop o).take l.length = Bs l) (hc : 0 < cap) :
    rdy (w.setRow b (cur.toList.take (o + n) ++ Bs c ++ cur.toList.drop (o + n + c.length)).toArray) (.slice (some ⟨b, o, none⟩) (n + c.length) cap) (l ++ c)
      ∧ Only (ofR (.slice (some ⟨b, o, none⟩) n cap)) w (w.setRow b (cur.toList.take (o + n) ++ Bs c ++ cur.toList.drop (o + n + c.length)).toArray) := by
  subst hn
  have hl : cur.toList.length = cur.size := Array.length_toList
  refine ⟨.inr ⟨b, o, cap, _, by rw [List.length_append], setRow_heap w b cur _ _ _ hb, hc, by rw [List.length_append]; exact h1, ?_, ?_⟩, ⟨rfl, rfl, rfl, by simp [World.setRow], fun k _ hk => setRow_other w b k _ (fun e => hk ⟨o, l.length, cap, by rw [e], hc⟩)⟩⟩
  · rw [List.size_toArray]
    simp only [List.length_append, List.length_take, List.length_drop, Bs_length, hl]
    omega
  · have e1 : (cur.toList.take (o + l.length) ++ Bs c ++ cur.toList.drop (o + l.length + c.length)).drop o = (cur.toList.drop o).take l.length ++ (Bs c ++ cur.toList.drop (o + l.length + c.length)) := by
      rw [List.append_assoc, List.drop_append_of_le_length (by rw [List.length_take, hl]; omega), List.drop_take, Nat.add_sub_cancel_left]
    rw [e1, h3, List.length_append, ← List.append_assoc, ← Bs_length l, ← Bs_length c, ← List.length_append, List.take_left]
    unfold Bs; rw [List.map_append]
/-- .. in a new block. -/
theorem rdy_grown {S : Nat → Prop} (z : Nat) {c : List UInt8} {cs : Array Value} {cap n : Nat} (hcs : cs.toList.take (l.length + c.length) = Bs (l ++ c)) (hsz : cs.size = cap) (h1 : l.length + c.length ≤ cap) (hc : 0 < cap) (hn : n = l.length + c.length) (hz : z = w.heap.size) :
    rdy (w.drew.alloc (.cells cs 5)) (.slice (some ⟨z, 0, none⟩) n cap) (l ++ c) ∧ Only S w (w.drew.alloc (.cells cs 5)) ∧ ∀ i, ofR (.slice (some ⟨z, 0, none⟩) n cap) i → w.heap.size ≤ i := by
  subst hn; subst hz
  refine ⟨.inr ⟨w.heap.size, 0, cap, cs, by rw [List.length_append], heap_alloc_new w.drew _, hc, by rw [List.length_append]; exact h1, by omega, by rw [List.drop_zero, List.length_append]; exact hcs⟩, ⟨rfl, rfl, rfl, by simp, fun k hk _ => Below.heap_alloc w.drew _ k hk⟩, ?_⟩
  rintro i ⟨o, n, cap', e, _⟩
  injection e with e _ _
  injection e with e
  injection e with e _ _
  omega
/-- What an append leaves. -/
def more (w : World) (v : Value) (t : List UInt8) (v' : Value) (w' : World) : Prop := rdy w' v' t ∧ Only (ofR v) w w' ∧ ∀ i, ofR v' i → ofR v i ∨ w.heap.size ≤ i
theorem zero_cells : (Value.int IntKind.u8 0).cells.size = 1 := rfl
theorem grown_take (a c : List UInt8) (z : Array Value) : ((Bs a).toArray ++ (Bs c).toArray ++ z).toList.take (a.length + c.length) = Bs (a ++ c) := by
  simp only [Array.toList_append]
  rw [← Bs_length a, ← Bs_length c, ← List.length_append, List.take_left]
  unfold Bs; rw [List.map_append]
theorem grown_size {a c : List UInt8} {cap n : Nat} (hn : n = a.length + c.length) (h : n ≤ cap) : ((Bs a).toArray ++ (Bs c).toArray ++ Builtin.zeroCells (Value.int IntKind.u8 0).cells (cap - n)).size = cap := by
  simp only [Array.size_append, List.size_toArray, size_zeroCells, Bs_length, zero_cells]
  omega

/-- 'append(b, s...)', s a string. -/
theorem app_str (ty : TypeId) (h : rdy w v l) (s : ByteArray) (hlen : l.length + s.size ≤ 1000000000) :
    ∃ v' w', (Builtin.append_ #[62, 9] ty #[v, .string s]).run Tryz.prog w = .ok v' w' ∧ more w v (l ++ s.data.toList) v' w' := by
  obtain ⟨i0, hi, hz0, hz1, hz2⟩ := info_parts info8
  have hsl : s.data.toList.length = s.size := Array.length_toList
  have hf := run_firstCells_string (P := Tryz.prog) w 1 s
  have grow : ∀ (b : Addr) (cap : Nat), v = .slice (some b) l.length cap → cap < l.length + s.size → (∀ j u, (Bs l)[j]? = some u → w.cell? (b.add j) = some u) →
      ∃ v' w', (Builtin.append_ #[62, 9] ty #[v, .string s]).run Tryz.prog w = .ok v' w' ∧ more w v (l ++ s.data.toList) v' w' := by
    intro b cap e hcap hold
    have hr := run_append_grow_string (P := Tryz.prog) w 62 9 ty 5 i0 (.int .u8 0) Tryz.underlying62 Tryz.underlying9 hi hz0 b l.length cap (Bs l) (by rw [Bs_length, hz1, Nat.mul_one]) hold s hcap (by omega) (growslice_fits hcap (by rw [hz2]; omega))
    have hge := grownCap_ge w (l.length + s.size) cap 5
    have hg := rdy_grown (w := w) (l := l) (S := ofR v) (z := w.heap.size) (c := s.data.toList) (cap := grownCap w (l.length + s.size) cap 5) (n := l.length + s.size) (grown_take l s.data.toList _) (grown_size (by rw [hsl]) hge) (by rw [hsl]; exact hge) (by omega) (by rw [hsl]) rfl
    subst e
    exact ⟨_, _, hr, hg.1, hg.2.1, fun i hi => .inr (hg.2.2 i hi)⟩
  rcases h with ⟨rfl, A, rfl⟩ | ⟨b, o, cap, cur, rfl, hb, hc, h1, h2, h3⟩
  · by_cases h0 : s.size = 0
    · have e : s.data.toList = [] := List.eq_nil_of_length_eq_zero (by omega)
      refine ⟨.slice A 0 0, w, ?_, by rw [e]; exact .inl ⟨rfl, A, rfl⟩, Only.refl _ _, fun i hi => .inl hi⟩
      have hs0 : strCells s = [] := List.eq_nil_of_length_eq_zero (by rw [strCells_length]; exact h0)
      rw [hs0, h0] at hf
      cases A <;> simp [Builtin.append_, run_underlying Tryz.underlying62, run_underlying Tryz.underlying9, sizeOf, typeInfo, hi, hz1, Builtin.lenOf, h0, hf, storeCells]
    · cases A with
      | none =>
        have hr := run_append_nil_string (P := Tryz.prog) w 62 9 ty 5 i0 (.int .u8 0) Tryz.underlying62 Tryz.underlying9 hi hz0 s (by omega) (by simp at hlen; omega) (by rw [hz2]; simp at hlen; omega)
        have hge := grownCap_ge w s.size 0 5
        have hcs : s.data.map (fun b => Value.int .u8 b.toNat) = (Bs s.data.toList).toArray := by apply Array.ext'; simp [Bs, B]
        rw [hcs] at hr
        have hg := rdy_grown (w := w) (l := []) (S := ofR (.slice none 0 0)) (z := w.heap.size) (c := s.data.toList) (cap := grownCap w s.size 0 5) (n := s.size) (cs := (Bs s.data.toList).toArray ++ Builtin.zeroCells (Value.int IntKind.u8 0).cells (grownCap w s.size 0 5 - s.size))
          (by simp [Bs])
          (by simp only [Array.size_append, List.size_toArray, size_zeroCells, Bs_length, zero_cells]; omega) (by simp [hsl]; exact hge) (by omega) (by simp [hsl]) rfl
        exact ⟨_, _, hr, hg.1, hg.2.1, fun i hi => .inr (hg.2.2 i hi)⟩
      | some a => exact grow a 0 rfl (by simp; omega) (fun j u hj => by simp [Bs] at hj)
  · by_cases hroom : l.length + s.size ≤ cap
    · have hst := run_storeCells_at Tryz.prog b (o + l.length) 5 (strCells s) 0 cur w hb (by rw [strCells_length]; omega) (strCells_oneCell s)
      simp only [Nat.add_zero, strCells_length] at hst
      have hg := rdy_room (c := s.data.toList) hb rfl (by rw [hsl]; exact hroom) h2 h3 hc
      rw [hsl] at hg
      have hadd : (⟨b, o, none⟩ : Addr).add l.length = ⟨b, o + l.length, none⟩ := by simp [Addr.add]
      refine ⟨_, _, ?_, hg.1, hg.2, fun i hi => .inl ?_⟩
      · simp [Builtin.append_, run_underlying Tryz.underlying62, run_underlying Tryz.underlying9, sizeOf, typeInfo, hi, hz1, Builtin.lenOf, hroom, hf, hadd, hst]
        rfl
      · obtain ⟨o', n', cap', e, hc'⟩ := hi
        injection e with e1 e2 e3
        exact ⟨o', l.length, cap', by rw [e1, e3], hc'⟩
    · refine grow ⟨b, o, none⟩ cap rfl (by omega) (fun j u hj => ?_)
      have hadd : (⟨b, o, none⟩ : Addr).add j = ⟨b, o + j, none⟩ := by simp [Addr.add]
      rw [hadd, hb.cell]
      have e1 := congrArg (·[j]?) h3
      have hj2 : j < l.length := by
        rcases Nat.lt_or_ge j l.length with h | h
        · exact h
        · rw [List.getElem?_eq_none (by rw [Bs_length]; exact h)] at hj; cases hj
      simp only [List.getElem?_take, List.getElem?_drop, if_pos hj2] at e1
      rw [← Array.getElem?_toList, e1]
      exact hj
/-- 'append(b, x)', the byte having been laid in a block of its own. -/
theorem app_one (ty : TypeId) (h : rdy w v l) (ad : Addr) (m c0 : Nat) (x : UInt8) (hm : m = 1) (hx : w.cell? ad = some (B x)) (hlen : l.length + 1 ≤ 1000000000) :
    ∃ v' w', (Builtin.append_ #[62, 62] ty #[v, .slice (some ad) m c0]).run Tryz.prog w = .ok v' w' ∧ more w v (l ++ [x]) v' w' := by
  subst hm
  obtain ⟨i0, hi, hz0, hz1, hz2⟩ := info_parts info8
  have hnews : ∀ j u, (Bs [x])[j]? = some u → w.cell? (ad.add j) = some u := by
    intro j u hj
    match j, hj with
    | 0, hj =>
      have e : ad.add 0 = ad := by simp [Addr.add]
      rw [e, hx]; exact hj
    | j + 1, hj => simp [Bs] at hj
  have hf := run_firstCells_some (P := Tryz.prog) w 1 1 ad 1 c0 (Bs [x]) rfl hnews
  have grow : ∀ (b : Addr) (cap : Nat), v = .slice (some b) l.length cap → cap < l.length + 1 → (∀ j u, (Bs l)[j]? = some u → w.cell? (b.add j) = some u) →
      ∃ v' w', (Builtin.append_ #[62, 62] ty #[v, .slice (some ad) 1 c0]).run Tryz.prog w = .ok v' w' ∧ more w v (l ++ [x]) v' w' := by
    intro b cap e hcap hold
    have hr := run_append_grow (P := Tryz.prog) w 62 ty 5 i0 (.int .u8 0) Tryz.underlying62 hi hz0 b l.length cap (Bs l) (by rw [Bs_length, hz1, Nat.mul_one]) hold ad 1 c0 (Bs [x]) (by rw [hz1]; rfl) hnews hcap (by omega) (growslice_fits hcap (by rw [hz2]; omega))
    have hge := grownCap_ge w (l.length + 1) cap 5
    have hg := rdy_grown (w := w) (l := l) (S := ofR v) (z := w.heap.size) (c := [x]) (cap := grownCap w (l.length + 1) cap 5) (n := l.length + 1) (grown_take l [x] _) (grown_size rfl hge) hge (by omega) rfl rfl
    subst e
    exact ⟨_, _, hr, hg.1, hg.2.1, fun i hi => .inr (hg.2.2 i hi)⟩
  rcases h with ⟨rfl, A, rfl⟩ | ⟨b, o, cap, cur, rfl, hb, hc, h1, h2, h3⟩
  · cases A with
    | none =>
      have hr := run_append_nil (P := Tryz.prog) w 62 ty 5 i0 (.int .u8 0) Tryz.underlying62 hi hz0 ad 1 c0 (Bs [x]) (by rw [hz1]; rfl) hnews (by omega) (by omega) (by rw [hz2]; omega)
      have hge := grownCap_ge w 1 0 5
      have hg := rdy_grown (w := w) (l := []) (S := ofR (.slice none 0 0)) (z := w.heap.size) (c := [x]) (cap := grownCap w 1 0 5) (n := 1) (cs := (Bs [x]).toArray ++ Builtin.zeroCells (Value.int IntKind.u8 0).cells (grownCap w 1 0 5 - 1))
        (by simp [Bs])
        (by simp only [Array.size_append, List.size_toArray, size_zeroCells, Bs_length, zero_cells]; simp only [List.length_cons, List.length_nil]; omega) hge (by omega) rfl rfl
      exact ⟨_, _, hr, hg.1, hg.2.1, fun i hi => .inr (hg.2.2 i hi)⟩
    | some a => exact grow a 0 rfl (by simp) (fun j u hj => by simp [Bs] at hj)
  · by_cases hroom : l.length + 1 ≤ cap
    · have hst := run_storeCells_at Tryz.prog b (o + l.length) 5 (Bs [x]) 0 cur w hb (by show o + l.length + 0 + 1 ≤ cur.size; omega) (Bs_one _)
      simp only [Nat.add_zero, Bs_length] at hst
      have hg := rdy_room (c := [x]) hb rfl hroom h2 h3 hc
      have hadd : (⟨b, o, none⟩ : Addr).add l.length = ⟨b, o + l.length, none⟩ := by simp [Addr.add]
      refine ⟨_, _, ?_, hg.1, hg.2, fun i hi => .inl ?_⟩
      · simp [Builtin.append_, run_underlying Tryz.underlying62, sizeOf, typeInfo, hi, hz1, Builtin.lenOf, hroom, hf, hadd, hst]
      · obtain ⟨o', n', cap', e, hc'⟩ := hi
        injection e with e1 e2 e3
        exact ⟨o', l.length, cap', by rw [e1, e3], hc'⟩
    · refine grow ⟨b, o, none⟩ cap rfl (by omega) (fun j u hj => ?_)
      have hadd : (⟨b, o, none⟩ : Addr).add j = ⟨b, o + j, none⟩ := by simp [Addr.add]
      rw [hadd, hb.cell]
      have e1 := congrArg (·[j]?) h3
      have hj2 : j < l.length := by
        rcases Nat.lt_or_ge j l.length with h | h
        · exact h
        · rw [List.getElem?_eq_none (by rw [Bs_length]; exact h)] at hj; cases hj
      simp only [List.getElem?_take, List.getElem?_drop, if_pos hj2] at e1
      rw [← Array.getElem?_toList, e1]
      exact hj
end

section
variable {w : World}
theorem wpList_rdy_str {ops : Array Oper} {rest : List Oper} {o : Oper} {a : Act} {Q : Exit → Act → World → Prop} (hgd : o.guard = none) (sl x : Operand)
    (ho : o.op = .call { callee := .builtin .append, args := #[sl, x], argTypes := #[62, 9] })
    (v : Value) (hv : a.eval sl = v) (l : List UInt8) (h : rdy w v l) (s : ByteArray) (hx : a.eval x = .string s) (hlen : l.length + s.size ≤ 1000000000)
    (hk : ∀ A n cap w', Hid (more w v (l ++ s.data.toList) (.slice A n cap) w') → wpList Tryz.prog ops Q rest (a.put o.dst (.slice A n cap)) w') : wpList Tryz.prog ops Q (o :: rest) a w := by
  refine wpList_plain hgd fun K hK => ?_
  obtain ⟨v', w', hr, h2⟩ := app_str o.type h s hlen
  obtain ⟨A, cap, e, _⟩ := h2.1.form
  subst e
  unfold Oper.wp execOp
  simp only [ho, resolve, invoke, builtin, Sem.run_bind, Sem.run_pure, Result.andThen_ok, List.map_toArray, List.map_cons, List.map_nil, hv, hx, hr]
  exact hK _ _ (hk A _ cap w' (Lib.hid h2))
theorem wpList_rdy_one {ops : Array Oper} {rest : List Oper} {o : Oper} {a : Act} {Q : Exit → Act → World → Prop} (hgd : o.guard = none) (sl x : Operand)
    (ho : o.op = .call { callee := .builtin .append, args := #[sl, x], argTypes := #[62, 62] })
    (v : Value) (hv : a.eval sl = v) (l : List UInt8) (h : rdy w v l) (ad : Addr) (m c0 : Nat) (y : UInt8) (hm : m = 1) (hx : a.eval x = .slice (some ad) m c0) (hy : w.cell? ad = some (B y)) (hlen : l.length + 1 ≤ 1000000000)
    (hk : ∀ A n cap w', Hid (more w v (l ++ [y]) (.slice A n cap) w') → wpList Tryz.prog ops Q rest (a.put o.dst (.slice A n cap)) w') : wpList Tryz.prog ops Q (o :: rest) a w := by
  refine wpList_plain hgd fun K hK => ?_
  obtain ⟨v', w', hr, h2⟩ := app_one o.type h ad m c0 y hm hy hlen
  obtain ⟨A, cap, e, _⟩ := h2.1.form
  subst e
  unfold Oper.wp execOp
  simp only [ho, resolve, invoke, builtin, Sem.run_bind, Sem.run_pure, Result.andThen_ok, List.map_toArray, List.map_cons, List.map_nil, hv, hx, hr]
  exact hK _ _ (hk A _ cap w' (Lib.hid h2))
/-- 'b[x:]'. -/
theorem rdy_drop {A : Option Addr} {n cap : Nat} {l : List UInt8} (h : rdy w (.slice A n cap) l) {x : Nat} (hx : x ≤ l.length) :
    ∃ A', (∀ u : World, (Instr.slice 62 (.slice A n cap) (some (.int .i64 (x : Int))) none none).run Tryz.prog u = .ok (.slice A' (n - x) (cap - x)) u) ∧ rdy w (.slice A' (n - x) (cap - x)) (l.drop x) ∧ ∀ i, ofR (.slice A' (n - x) (cap - x)) i → ofR (.slice A n cap) i := by
  obtain ⟨A0, cap0, e, hcap, _⟩ := h.form
  injection e with _ e1 e2
  subst e1; subst e2
  have h1 : (0 : Int) ≤ (x : Int) := by omega
  have h2 : (x : Int) ≤ (l.length : Int) := by omega
  refine ⟨if cap = x then A else A.map (·.add (x * 1)), fun u => ?_, ?_, ?_⟩
  · generalize l.length = n at *
    go_simp
  · by_cases hc : cap = x
    · rw [if_pos hc]
      exact .inl ⟨List.drop_eq_nil_of_le (by omega), A, by rw [show l.length - x = 0 by omega, show cap - x = 0 by omega]⟩
    · rw [if_neg hc]
      rcases h with ⟨_, A1, e⟩ | ⟨b, o, cap', cur, e, hb, hc2, h3, h4, h5⟩
      · injection e with _ _ e; omega
      · injection e with e _ e3
        subst e; subst e3
        refine .inr ⟨b, o + x, cap - x, cur, ?_, hb, by omega, by rw [List.length_drop]; omega, by omega, ?_⟩
        · rw [List.length_drop]; simp [Addr.add]
        · rw [List.length_drop, ← List.drop_drop]
          have e5 := congrArg (List.drop x) h5
          rw [List.drop_take] at e5
          rw [e5]; unfold Bs; rw [List.map_drop]
  · rintro i ⟨o, n', cap', e, hc'⟩
    injection e with e e2 e3
    by_cases hc : cap = x
    · omega
    · rw [if_neg hc] at e
      cases A with
      | none => cases e
      | some a =>
        simp only [Option.map_some, Option.some.injEq] at e
        obtain ⟨b, o1, sp⟩ := a
        rcases h with ⟨_, A1, e4⟩ | ⟨b', o', cap', cur, e4, _⟩
        · injection e4 with _ _ e4; omega
        · injection e4 with e4 _ _
          injection e4 with e4
          injection e4 with e5 e6 e7
          subst e5; subst e6; subst e7
          have e8 : b = i := by
            have e7 := congrArg Addr.block e
            simp only [Addr.add] at e7
            split at e7 <;> exact e7
          subst e8
          exact ⟨o1, l.length, cap, rfl, by omega⟩
/-- 'string(b[:x])'. -/
theorem rdy_take {A : Option Addr} {n cap cp : Nat} {l : List UInt8} (h : rdy w (.slice A n cap) l) {x : Nat} (hx : x ≤ l.length) : (convert 62 9 (.slice A x cp)).run Tryz.prog w = .ok (.string ⟨(l.take x).toArray⟩) w := by
  have hl : (l.take x).length = x := by rw [List.length_take]; omega
  by_cases h0 : x = 0
  · subst h0
    rw [List.take_zero]
    cases A with
    | none => exact Lib.run_convert_nil_bytes w _ _ 5 _ Tryz.underlying62 Tryz.underlying5 Tryz.underlying9
    | some a => exact run_convert_bytes_back w _ _ 5 a _ [] Tryz.underlying62 Tryz.underlying5 Tryz.underlying9 (fun j hj => absurd hj (by simp))
  · obtain ⟨A0, cap0, e, hcap, hc⟩ := h.form
    obtain ⟨b, o, e0, _, hcell⟩ := hc (by omega)
    have e1 : A = A0 := Value.slice.inj e |>.1
    rw [e1, e0]
    have hp : ∀ j (hj : j < (l.take x).length), w.cell? ((⟨b, o, none⟩ : Addr).add j) = some (.int .u8 ((l.take x)[j].toNat : Int)) := by
      intro j hj
      have e3 : ((⟨b, o, none⟩ : Addr).add j) = ⟨b, o + j, none⟩ := by simp [Addr.add]
      have hlt : j < l.length := by omega
      rw [e3, hcell j hlt, List.getElem?_eq_getElem hlt, List.getElem_take]
      rfl
    have hr := run_convert_bytes_back (P := Tryz.prog) w 62 9 5 ⟨b, o, none⟩ cp (l.take x) Tryz.underlying62 Tryz.underlying5 Tryz.underlying9 hp
    rw [hl] at hr
    exact hr
end
end Go.Proofs.YtnkninjdpgpkmaaGreatDoor.Ia
namespace Go.Proofs.YtnkninjdpgpkmaaGreatDoor.Ira
open Go.RowKit Go.Lib Go.Proofs.YtnkninjdpgpkmaaGreatDoor.Vm Go.Proofs.YtnkninjdpgpkmaaGreatDoor.Vo Go.Proofs.YtnkninjdpgpkmaaGreatDoor.Bw Go.Proofs.YtnkninjdpgpkmaaGreatDoor.Wr Go.Proofs.YtnkninjdpgpkmaaGreatDoor.Wc Go.Proofs.YtnkninjdpgpkmaaGreatDoor.Ww Go.Proofs.YtnkninjdpgpkmaaGreatDoor.Ia

/-- A row of bytes of the call's own, whose block may bear a mark behind its cells. -/
def rbuf (w : World) (v : Value) (l : List UInt8) : Prop :=
  ∃ b cap C fr, v = .slice (some ⟨b, 0, none⟩) l.length cap ∧ w.heap[b]? = some (.cells C 5 fr) ∧ l.length ≤ cap ∧ cap ≤ C.size ∧ (fr = (0, 0) ∨ C.size ≤ fr.1) ∧ C.toList.take l.length = Bs l
section
variable {w w' : World} {v : Value} {l : List UInt8}
theorem rbuf.block (h : rbuf w v l) : ∃ b cap, v = .slice (some ⟨b, 0, none⟩) l.length cap ∧ l.length ≤ cap ∧ b < w.heap.size ∧ (∃ C fr, w.heap[b]? = some (.cells C 5 fr)) ∧ ∀ j, j < l.length → w.cell? ⟨b, j, none⟩ = l[j]?.map B := by
  obtain ⟨b, cap, C, fr, hv, hb, h1, h2, h3, h4⟩ := h
  refine ⟨b, cap, hv, h1, ?_, ⟨C, fr, hb⟩, fun j hj => ?_⟩
  · rcases Nat.lt_or_ge b w.heap.size with hl | hl
    · exact hl
    · rw [Array.getElem?_eq_none hl] at hb; cases hb
  · rw [cell_of_row _ _ _ _ _ _ hb]
    have e := congrArg (·[j]?) h4
    simp only [List.getElem?_take, if_pos hj, Bs_get] at e
    rw [← e, Array.getElem?_toList]
theorem rbuf.only {S : Nat → Prop} (h : rbuf w v l) (k : Only S w w') (hv : ∀ i, v.ownBlock = some i → ¬ S i) : rbuf w' v l := by
  obtain ⟨b0, cap0, hv0, _, hlt, _⟩ := h.block
  obtain ⟨b, cap, C, fr, e, hb, h1, h2, h3, h4⟩ := h
  have : b < w.heap.size := by
    rcases Nat.lt_or_ge b w.heap.size with hl | hl
    · exact hl
    · rw [Array.getElem?_eq_none hl] at hb; cases hb
  exact ⟨b, cap, C, fr, e, (k.block b this (hv b (by rw [e]; rfl))).trans hb, h1, h2, h3, h4⟩
theorem rbuf.below (h : rbuf w v l) (k : Below w.heap.size w w') : rbuf w' v l := h.only (S := fun _ => False) (Only.of_below k) (fun _ _ e => e)
theorem rbuf.draws (h : rbuf w v l) (n : Nat) : rbuf (w.drewN n) v l := h
/-- Another block of another type. -/
theorem rbuf.apart {g : Nat} {t : TypeId} {cs : Array Value} (h : rbuf w v l) (hg : Blk w g t cs) (hne : 5 ≠ t) : ∀ i, v.ownBlock = some i → i ≠ g := by
  obtain ⟨b, cap, C, fr, e, hb, _⟩ := h
  rintro i hi rfl
  rw [e] at hi
  obtain rfl : b = i := by simpa [Value.ownBlock] using hi
  unfold Blk at hg
  rw [hb] at hg
  injection hg with hg
  injection hg with _ e2 _
  exact hne e2
/-- What '[]byte(s)' lays. -/
theorem rbuf_new (w : World) (s : ByteArray) : rbuf (w.drew.alloc (.cells (bytesRow s (grownCap w s.size 0 5)) 5 ((bytesRow s (grownCap w s.size 0 5)).size, (bytesRow s (grownCap w s.size 0 5)).size + 1))) (.slice (some ⟨w.heap.size, 0, none⟩) s.size (grownCap w s.size 0 5)) s.data.toList := by
  have hl : s.data.toList.length = s.size := Array.length_toList
  have hge := grownCap_ge w s.size 0 5
  have hsz : (bytesRow s (grownCap w s.size 0 5)).size = grownCap w s.size 0 5 := by
    unfold bytesRow
    simp only [Array.size_append, Array.size_map, Array.size_replicate]
    have : s.data.size = s.size := rfl
    omega
  refine ⟨w.heap.size, _, _, _, by rw [hl], heap_alloc_new w.drew _, by rw [hl]; exact hge, by rw [hsz]; exact Nat.le_refl _, .inr (Nat.le_refl _), ?_⟩
  unfold bytesRow
  rw [Array.toList_append, List.take_append_of_le_length (by simp [hl]), Array.toList_map, List.take_of_length_le (by simp)]
  rfl
/-- 'append(b, x)', the byte having been laid in a block of its own. -/
theorem rapp_one (ty : TypeId) (h : rbuf w v l) (ad : Addr) (m c0 : Nat) (x : UInt8) (hm : m = 1) (hx : w.cell? ad = some (B x)) (hlen : l.length + 1 ≤ 1000000000) :
    ∃ b cap w', (Builtin.append_ #[62, 62] ty #[v, .slice (some ad) m c0]).run Tryz.prog w = .ok (.slice (some ⟨b, 0, none⟩) (l.length + 1) cap) w' ∧ rbuf w' (.slice (some ⟨b, 0, none⟩) (l.length + 1) cap) (l ++ [x]) ∧ Only (of v) w w' ∧ (v.ownBlock = some b ∨ w.heap.size ≤ b) := by
  subst hm
  obtain ⟨i0, hi, hz0, hz1, hz2⟩ := info_parts info8
  have hnews : ∀ j u, (Bs [x])[j]? = some u → w.cell? (ad.add j) = some u := by
    intro j u hj
    match j, hj with
    | 0, hj =>
      have e : ad.add 0 = ad := by simp [Addr.add]
      rw [e, hx]; exact hj
    | j + 1, hj => simp [Bs] at hj
  have hf := run_firstCells_some (P := Tryz.prog) w 1 1 ad 1 c0 (Bs [x]) rfl hnews
  have hcell := h.block
  obtain ⟨b, cap, C, fr, rfl, hb, h1, h2, h3, h4⟩ := h
  have hbl : b < w.heap.size := by
    rcases Nat.lt_or_ge b w.heap.size with hl | hl
    · exact hl
    · rw [Array.getElem?_eq_none hl] at hb; cases hb
  by_cases hroom : l.length + 1 ≤ cap
  · have hadd : (⟨b, 0, none⟩ : Addr).add l.length = ⟨b, l.length, none⟩ := by unfold Addr.add; split <;> simp_all
    have hc : w.cell? ⟨b, l.length, none⟩ = some C[l.length] := by
      rw [cell_of_row _ _ _ _ _ _ hb]; exact Array.getElem?_eq_getElem (by omega)
    have hfz : w.frozen? ⟨b, l.length, none⟩ = false := by
      rcases h3 with rfl | h3
      · simp [World.frozen?, hb]
      · simp [World.frozen?, hb]
        omega
    have hst : (storeCells ⟨b, l.length, none⟩ (Bs [x])).run Tryz.prog w = .ok () (w.setCell ⟨b, l.length, none⟩ (B x)) := by
      have e0 : (⟨b, l.length, none⟩ : Addr).add 0 = ⟨b, l.length, none⟩ := by simp [Addr.add]
      show (storeCells ⟨b, l.length, none⟩ [B x] 0).run Tryz.prog w = _
      unfold storeCells
      rw [e0]
      have hs := run_store Tryz.prog w ⟨b, l.length, none⟩ (B x) .plain rfl
      rw [hc] at hs
      simp only [hfz, Bool.false_eq_true, if_false] at hs
      simp only [Sem.run_bind, hs, Result.andThen_ok]
      unfold storeCells
      rfl
    refine ⟨b, cap, _, ?_, ⟨b, cap, C.setIfInBounds l.length (B x), fr, by rw [List.length_append]; rfl, ?_, by rw [List.length_append]; exact hroom, by rw [Array.size_setIfInBounds]; exact h2, by rw [Array.size_setIfInBounds]; exact h3, ?_⟩, (Only.refl (of (.slice (some ⟨b, 0, none⟩) l.length cap)) w).store (p := ⟨b, l.length, none⟩) (.inl rfl) (B x), .inl rfl⟩
    · simp [Builtin.append_, run_underlying Tryz.underlying62, sizeOf, typeInfo, hi, hz1, Builtin.lenOf, hroom, hf, hadd, hst]
    · rw [setCell_eq_setRow _ _ _ _ _ _ _ hb]; exact setRow_heap _ _ _ _ _ _ hb
    · rw [List.length_append]
      apply List.ext_getElem?
      intro i
      rw [List.getElem?_take, Array.getElem?_toList, Array.getElem?_setIfInBounds, Bs_get]
      by_cases hi1 : i < l.length
      · have e := congrArg (·[i]?) h4
        simp only [List.getElem?_take, if_pos hi1, Bs_get, Array.getElem?_toList] at e
        rw [if_pos (by simp; omega), if_neg (by omega), e, List.getElem?_append_left hi1]
      · by_cases hi2 : i = l.length
        · subst hi2
          rw [if_pos (by simp), if_pos rfl, if_pos (by omega), List.getElem?_append_right (Nat.le_refl _), Nat.sub_self]
          rfl
        · rw [if_neg (by simp; omega), List.getElem?_eq_none (by simp; omega)]; rfl
  · have hold : ∀ j u, (Bs l)[j]? = some u → w.cell? ((⟨b, 0, none⟩ : Addr).add j) = some u := by
      intro j u hj
      obtain ⟨b', cap', e, _, _, _, hc⟩ := hcell
      obtain rfl : b = b' := congrArg Addr.block (Option.some.inj (Value.slice.inj e).1)
      have hj2 : j < l.length := by
        rcases Nat.lt_or_ge j l.length with h | h
        · exact h
        · rw [List.getElem?_eq_none (by rw [Bs_length]; exact h)] at hj; cases hj
      have hadd : (⟨b, 0, none⟩ : Addr).add j = ⟨b, j, none⟩ := by unfold Addr.add; split <;> simp_all
      rw [hadd, hc j hj2, ← Bs_get]; exact hj
    have hr := run_append_grow (P := Tryz.prog) w 62 ty 5 i0 (.int .u8 0) Tryz.underlying62 hi hz0 ⟨b, 0, none⟩ l.length cap (Bs l) (by rw [Bs_length, hz1, Nat.mul_one]) hold ad 1 c0 (Bs [x]) (by rw [hz1]; rfl) hnews (by omega) (by omega) (growslice_fits (by omega) (by rw [hz2]; omega))
    have hge := grownCap_ge w (l.length + 1) cap 5
    refine ⟨w.heap.size, _, _, hr, ⟨w.heap.size, _, _, (0, 0), by rw [List.length_append]; rfl, heap_alloc_new w.drew _, by rw [List.length_append]; exact hge, ?_, .inl rfl, ?_⟩, ⟨rfl, rfl, rfl, by simp, fun k hk _ => Below.heap_alloc w.drew _ k hk⟩, .inr (Nat.le_refl _)⟩
    · have := grown_size (a := l) (c := [x]) (n := l.length + 1) rfl hge
      rw [this]; exact Nat.le_refl _
    · rw [List.length_append]; exact grown_take l [x] _
theorem wpList_rbuf_one {ops : Array Oper} {rest : List Oper} {o : Oper} {a : Act} {Q : Exit → Act → World → Prop} (hgd : o.guard = none) (sl x : Operand)
    (ho : o.op = .call { callee := .builtin .append, args := #[sl, x], argTypes := #[62, 62] })
    (v : Value) (hv : a.eval sl = v) (l : List UInt8) (h : rbuf w v l) (ad : Addr) (m c0 : Nat) (y : UInt8) (hm : m = 1) (hx : a.eval x = .slice (some ad) m c0) (hy : w.cell? ad = some (B y)) (hlen : l.length + 1 ≤ 1000000000) (nl : Nat) (hnl : nl = l.length + 1)
    (hk : ∀ b cap w', Hid (rbuf w' (.slice (some ⟨b, 0, none⟩) nl cap) (l ++ [y]) ∧ Only (of v) w w' ∧ (v.ownBlock = some b ∨ w.heap.size ≤ b)) → wpList Tryz.prog ops Q rest (a.put o.dst (.slice (some ⟨b, 0, none⟩) nl cap)) w') : wpList Tryz.prog ops Q (o :: rest) a w := by
  subst hnl
  refine wpList_plain hgd fun K hK => ?_
  obtain ⟨b, cap, w', hr, h2⟩ := rapp_one o.type h ad m c0 y hm hy hlen
  unfold Oper.wp execOp
  simp only [ho, resolve, invoke, builtin, Sem.run_bind, Sem.run_pure, Result.andThen_ok, List.map_toArray, List.map_cons, List.map_nil, hv, hx, hr]
  exact hK _ _ (hk b cap w' (Lib.hid h2))
/-- 'string(b[x:])'. -/
theorem rbuf_string {b cap n x : Nat} (h : rbuf w (.slice (some ⟨b, 0, none⟩) n cap) l) (hx : x ≤ l.length) {A' : Option Addr} (hA : 0 < l.length - x → A' = some ⟨b, x, none⟩) :
    (convert 62 9 (.slice A' (l.length - x) (cap - x))).run Tryz.prog w = .ok (.string ⟨(l.drop x).toArray⟩) w := by
  have hl : (l.drop x).length = l.length - x := by rw [List.length_drop]
  by_cases h0 : l.length - x = 0
  · have e : l.drop x = [] := List.eq_nil_of_length_eq_zero (by omega)
    rw [e, h0]
    cases A' with
    | none => exact Lib.run_convert_nil_bytes w _ _ 5 _ Tryz.underlying62 Tryz.underlying5 Tryz.underlying9
    | some a => exact run_convert_bytes_back w _ _ 5 a _ [] Tryz.underlying62 Tryz.underlying5 Tryz.underlying9 (fun j hj => absurd hj (by simp))
  · obtain ⟨b', cap', e, _, _, _, hc⟩ := h.block
    obtain rfl : b = b' := congrArg Addr.block (Option.some.inj (Value.slice.inj e).1)
    rw [hA (by omega), ← hl]
    refine run_convert_bytes_back w _ _ 5 ⟨b, x, none⟩ _ (l.drop x) Tryz.underlying62 Tryz.underlying5 Tryz.underlying9 (fun j hj => ?_)
    have e3 : ((⟨b, x, none⟩ : Addr).add j) = ⟨b, x + j, none⟩ := by simp [Addr.add]
    have hlt : x + j < l.length := by omega
    rw [e3, hc (x + j) hlt, List.getElem?_eq_getElem hlt, List.getElem_drop]
    rfl
end
end Go.Proofs.YtnkninjdpgpkmaaGreatDoor.Ira
