/-
  A table of prefix codes in memory; isNone, Symbols and find, called with a table that New made: their results; nothing that was there has changed.
  Conditions: as each theorem says.
-/
import Derived.Test.YtgbdecnaamlekaaDoorPc
import Derived.StillTailTactics
import Derived.Deep.QuietTactic
import Derived.BigQuiet
namespace Go.Proofs.YtgbdecnaamlekaaDoor.Pd
open Go.RowKit Go.Proofs.YtgbdecnaamlekaaDoor.Vm Go.Proofs.YtgbdecnaamlekaaDoor.Bm Go.Proofs.YtgbdecnaamlekaaDoor.Bw Go.Proofs.YtgbdecnaamlekaaDoor.Br Go.Proofs.YtgbdecnaamlekaaDoor.Bs Go.Proofs.YtgbdecnaamlekaaDoor.Na Go.Proofs.YtgbdecnaamlekaaDoor.Ne Go.Proofs.YtgbdecnaamlekaaDoor.Pt Go.Proofs.YtgbdecnaamlekaaDoor.Pc

/-- A second table, as a slice. -/
def sl (b : Nat) : Value := .slice (some ⟨b, 0, none⟩) 64 64
/-- A table lies at block g: its first table is F, its second ones are G, at the blocks bs. -/
structure tb (base : Nat) (w : World) (g n : Nat) (F : Nat → Nat × Nat) (v : Value) (bs : List Nat) (G : Nat → Nat → Nat × Nat) : Prop where
  b : Blk w g 128 (tcells (.pointer (some ⟨g, 0, none⟩)) n F v)
  o : w.ownsRow base 133 1 v bs.length (bs.map sl)
  s : ∀ i, i < bs.length → Blk w (bs.getD i 0) 124 (scells (G i))
  d : ∀ i j, i < bs.length → j < bs.length → bs.getD i 0 = bs.getD j 0 → i = j
  lo : ∀ i, i < bs.length → base ≤ bs.getD i 0
  g0 : base ≤ g

section
variable {base : Nat} {w w' : World} {g n : Nat} {F : Nat → Nat × Nat} {v : Value} {bs : List Nat} {G : Nat → Nat → Nat × Nat}
theorem tb.only {S : Nat → Prop} (h : tb base w g n F v bs G) (k : Only S w w') (hg : ¬ S g) (hv : ∀ i, v.ownBlock = some i → ¬ S i) (hs : ∀ i, i < bs.length → ¬ S (bs.getD i 0)) : tb base w' g n F v bs G :=
  ⟨h.b.only k hg, own_only h.o k hv, fun i hi => (h.s i hi).only k (hs i hi), h.d, h.lo, h.g0⟩
theorem tb.below (h : tb base w g n F v bs G) (k : Below w.heap.size w w') : tb base w' g n F v bs G :=
  h.only (Only.of_below (S := fun _ => False) k) (fun h => h) (fun _ _ h => h) (fun _ _ h => h)
theorem tb.draws (h : tb base w g n F v bs G) (m : Nat) : tb base (w.drewN m) g n F v bs G := h.below (below_draws w m)
/-- What changes a block of another kind leaves it as it is. -/
theorem tb.apart {r : Nat} {t : TypeId} {cs : Array Value} (h : tb base w g n F v bs G) (hr : Blk w r t cs) (h1 : t ≠ 128) (h2 : t ≠ 133) (h3 : t ≠ 124) (k : Only (At r) w w') : tb base w' g n F v bs G :=
  h.only k (fun e => Blk.apart hr h.b h1 e.symm) (fun i hi e => own_apart h.o hr (fun e => h2 e.symm) i hi e) (fun i hi e => Blk.apart hr (h.s i hi) h3 e.symm)
/-- The first table has changed. -/
theorem tb.first {F' : Nat → Nat × Nat} (h : tb base w g n F v bs G) (k : Only (At g) w w') (hb : Blk w' g 128 (tcells (.pointer (some ⟨g, 0, none⟩)) n F' v)) : tb base w' g n F' v bs G :=
  ⟨hb, own_only h.o k (fun i hi e => own_apart h.o h.b (by decide) i hi e), fun i hi => (h.s i hi).only k (fun e => Blk.apart h.b (h.s i hi) (by decide) e.symm), h.d, h.lo, h.g0⟩
/-- A second table has changed. -/
theorem tb.second {i : Nat} {Gi : Nat → Nat × Nat} (h : tb base w g n F v bs G) (hi : i < bs.length) (k : Only (At (bs.getD i 0)) w w') (hb : Blk w' (bs.getD i 0) 124 (scells Gi)) : tb base w' g n F v bs (fun a => if a = i then Gi else G a) := by
  refine ⟨h.b.only k (fun e => Blk.apart h.b (h.s i hi) (by decide) e), own_only h.o k (fun j hj e => own_apart h.o (h.s i hi) (by decide) j hj e), fun a ha => ?_, h.d, h.lo, h.g0⟩
  by_cases e : a = i
  · subst e
    rw [if_pos rfl]; exact hb
  · rw [if_neg e]
    exact (h.s a ha).only k (fun e2 => e (h.d a i ha hi e2))
theorem tb.row (h : tb base w g n F v bs G) {i : Nat} (hi : i < bs.length) : ∃ r cap, v = .slice (some ⟨r, 0, none⟩) bs.length cap ∧ w.cell? ⟨r, i, none⟩ = some (sl (bs.getD i 0)) := by
  rcases h.o.2 with ⟨_, e⟩ | ⟨r, cap, cur, rfl, _, hh, _⟩
  · omega
  · refine ⟨r, cap, rfl, ?_⟩
    have hadd : (⟨r, 0, none⟩ : Addr).add i = ⟨r, i, none⟩ := by unfold Addr.add; split <;> simp_all
    rw [← hadd]
    refine h.o.cells (g := r) rfl i _ ?_
    rw [List.getElem?_map, List.getD_eq_getElem?_getD, List.getElem?_eq_getElem hi]
    rfl
theorem tb.c0 (h : tb base w g n F v bs G) : w.cell? ⟨g, 0, none⟩ = some (.pointer (some ⟨g, 0, none⟩)) := (h.b.cell 0).trans (t_c0 _ _ _ _)
theorem tb.c1 (h : tb base w g n F v bs G) : w.cell? ⟨g, 1, none⟩ = some (.int .i64 n) := (h.b.cell 1).trans (t_c1 _ _ _ _)
theorem tb.cl (h : tb base w g n F v bs G) : w.cell? ⟨g, 1026, none⟩ = some v := (h.b.cell 1026).trans (t_cl _ _ _ _)
theorem tb.ca (h : tb base w g n F v bs G) {p : Nat} (hp : p < 512) : w.cell? ⟨g, 2 + p * 2, none⟩ = some (.int .u16 (F p).1) := (h.b.cell _).trans ((pairs_t _ _ _).c1 F p hp)
theorem tb.cb (h : tb base w g n F v bs G) {p : Nat} (hp : p < 512) : w.cell? ⟨g, 2 + p * 2 + 1, none⟩ = some (.int .u16 (F p).2) := (h.b.cell _).trans ((pairs_t _ _ _).c2 F p hp)
theorem tb.sa (h : tb base w g n F v bs G) {i j : Nat} (hi : i < bs.length) (hj : j < 64) : w.cell? ⟨bs.getD i 0, j * 2, none⟩ = some (.int .u16 (G i j).1) := by
  have e := ((h.s i hi).cell (0 + j * 2)).trans (pairs_s.c1 (G i) j hj)
  rw [Nat.zero_add] at e; exact e
theorem tb.sb (h : tb base w g n F v bs G) {i j : Nat} (hi : i < bs.length) (hj : j < 64) : w.cell? ⟨bs.getD i 0, j * 2 + 1, none⟩ = some (.int .u16 (G i j).2) := by
  have e := ((h.s i hi).cell (0 + j * 2 + 1)).trans (pairs_s.c2 (G i) j hj)
  rw [Nat.zero_add] at e; exact e
end

theorem infoT : (Tryd.prog.info? 128).isSome = true := by kernel_rfl
theorem pNone_nil (w : World) : Calls Tryd.prog 100 #[.pointer none] w fun e w' => e = .returned (.bool true) ∧ w = w' := by
  go_enter Tryd.func100, Tryd.ntmps100
  go_wp2
  go_ret
  exact ⟨rfl, rfl⟩
theorem pNone_zero {w : World} {g : Nat} (c0 : w.cell? ⟨g, 0, none⟩ = some (.pointer none)) : Calls Tryd.prog 100 #[.pointer (some ⟨g, 0, none⟩)] w fun e w' => e = .returned (.bool true) ∧ w = w' := by
  have he := run_neq_nil w ⟨g, 0, none⟩ Tryd.underlying93
  go_enter Tryd.func100, Tryd.ntmps100
  go_wp2
  go_ret
  exact ⟨rfl, rfl⟩
theorem pNone_any {w : World} {g : Nat} (c0 : w.cell? ⟨g, 0, none⟩ = some (.pointer (some ⟨g, 0, none⟩))) : Calls Tryd.prog 100 #[.pointer (some ⟨g, 0, none⟩)] w fun e w' => e = .returned (.bool false) ∧ w = w' := by
  obtain ⟨j, hj⟩ := Option.isSome_iff_exists.1 infoT
  have he := run_neq_same w ⟨g, 0, none⟩ Tryd.underlying93 hj
  clear hj
  go_enter Tryd.func100, Tryd.ntmps100
  go_wp2
  go_ret
  exact ⟨rfl, rfl⟩
set_option maxRecDepth 100000 in
theorem find_any {base : Nat} {w : World} {g n : Nat} {F : Nat → Nat × Nat} {v : Value} {bs : List Nat} {G : Nat → Nat → Nat × Nat} (h : tb base w g n F v bs G) (x : Nat) (hx : x < 32768) (hl : (F (x % 512)).1 = 16 → (F (x % 512)).2 < bs.length) :
    Calls Tryd.prog 101 #[.pointer (some ⟨g, 0, none⟩), .int .i64 x] w fun e w' => e = .returned (.agg #[.int .u16 (lkp F G x).1, .int .u16 (lkp F G x).2]) ∧ Below w.heap.size w w' := by
  have hp : x % 512 < 512 := Nat.mod_lt _ (by omega)
  have ca := h.ca hp
  have cb := h.cb hp
  have hgw := h.b.lt
  have H := Lib.hid h
  by_cases h16 : (F (x % 512)).1 = 16
  · obtain ⟨r, cap, rfl, cr⟩ := h.row (hl h16)
    have hj : x / 512 < 64 := by omega
    have sa := h.sa (hl h16) hj
    have sb := h.sb (hl h16) hj
    have cl := h.cl
    have HL : Hid (lkp F G x = G (F (x % 512)).2 (x / 512)) := Lib.hid (if_pos h16)
    have hi := hl h16
    obtain ⟨i, hie⟩ : ∃ i, i = (F (x % 512)).2 := ⟨_, rfl⟩
    rw [h16] at ca
    rw [← hie] at cb cr sa sb HL hi
    obtain ⟨B, hB⟩ : ∃ B, B = bs.getD i 0 := ⟨_, rfl⟩
    rw [← hB] at cr sa sb
    obtain ⟨p, hpe⟩ : ∃ p, p = x % 512 := ⟨_, rfl⟩
    obtain ⟨j, hje⟩ : ∃ j, j = x / 512 := ⟨_, rfl⟩
    rw [← hpe] at ca cb hp
    rw [← hje] at sa sb HL hj
    have e1 : (x : Int) % 512 = (p : Int) := by omega
    have e2 : (x : Int) / 512 = (j : Int) := by omega
    obtain ⟨c, d, hcd⟩ : ∃ c d, G i j = (c, d) := ⟨_, _, rfl⟩
    rw [hcd] at sa sb HL
    obtain ⟨m, hm⟩ : ∃ m, m = bs.length := ⟨_, rfl⟩
    rw [← hm] at hi cl
    unfold sl at cr
    have hrw := World.block_lt_of_cell? _ _ cr
    have hBw := World.block_lt_of_cell? _ _ sa
    simp only at hrw hBw
    clear hl h16 hie hB hpe hje hcd h hm hx
    go_enter Tryd.func101, Tryd.ntmps101
    go_wp2
    obtain ⟨w2, hw2⟩ : ∃ w2, w2 = (w.alloc (.cells #[.int .u16 0, .int .u16 0] 124)).alloc (.cells #[.int .u16 16, .int .u16 i] 124) := ⟨_, rfl⟩
    have hz : w.heap.size + 1 < w2.heap.size := by rw [hw2, size_alloc, size_alloc]; omega
    have B2 : Below w.heap.size w w2 := by rw [hw2]; exact grows (below_alloc _ _) (below_alloc _ _)
    have ka := (B2.cell (p := ⟨g, 1026, none⟩) hgw).trans cl
    have kb := (B2.cell (p := ⟨r, i, none⟩) hrw).trans cr
    have kc := (B2.cell (p := ⟨B, j * 2, none⟩) hBw).trans sa
    have kd := (B2.cell (p := ⟨B, j * 2 + 1, none⟩) hBw).trans sb
    have X2 : Blk w2 (w.heap.size + 1) 124 #[.int .u16 16, .int .u16 i] := by
      have := Blk.fresh (w.alloc (.cells #[.int .u16 0, .int .u16 0] 124)) 124 #[.int .u16 16, .int .u16 i]
      rw [size_alloc, ← hw2] at this; exact this
    have X1 : Blk w2 w.heap.size 124 #[.int .u16 0, .int .u16 0] := by
      have := (Blk.fresh w 124 #[.int .u16 0, .int .u16 0]).below (below_alloc _ (.cells #[.int .u16 16, .int .u16 i] 124))
      rw [← hw2] at this; exact this
    have x0 := X2.cell 0
    have x1 := X2.cell 1
    have y0 := X1.cell 0
    have y1 := X1.cell 1
    have fx0 := X2.frozen 0
    have fx1 := X2.frozen 1
    have fy0 := X1.frozen 0
    have fy1 := X1.frozen 1
    have hB2 := Lib.hid B2
    rw [← hw2]
    clear hw2 ca cb cl cr sa sb B2
    have Y := Lib.hid ((((X1.apartStore (p := ⟨w.heap.size + 1, 0, none⟩) (u := .int .u16 c) (by show w.heap.size ≠ w.heap.size + 1; omega)).apartStore (p := ⟨w.heap.size + 1, 1, none⟩) (u := .int .u16 d) (by show w.heap.size ≠ w.heap.size + 1; omega)).store 0 (.int .u16 c)).store 1 (.int .u16 d))
    have O2 := Lib.hid ((((hB2.out.setCell (p := ⟨w.heap.size + 1, 0, none⟩) (by show w.heap.size ≤ w.heap.size + 1; omega) (.int .u16 c)).setCell (p := ⟨w.heap.size + 1, 1, none⟩) (by show w.heap.size ≤ w.heap.size + 1; omega) (.int .u16 d)).setCell (p := ⟨w.heap.size, 0, none⟩) (Nat.le_refl _) (.int .u16 c)).setCell (p := ⟨w.heap.size, 1, none⟩) (Nat.le_refl _) (.int .u16 d))
    clear X1 X2
    go_region
    go_wp2
    have k0 := Y.out.cell 0
    have k1 := Y.out.cell 1
    have k0' := (show ∀ u : World, u.drew.cell? ⟨w.heap.size, 0, none⟩ = u.cell? ⟨w.heap.size, 0, none⟩ from fun _ => rfl)
    have k1' := (show ∀ u : World, u.drew.cell? ⟨w.heap.size, 1, none⟩ = u.cell? ⟨w.heap.size, 1, none⟩ from fun _ => rfl)
    exact bodyPost_ret (v := .agg #[.int .u16 c, .int .u16 d]) (by simp [results, Tryd.results101, go_sem, k0', k1', k0, k1]) rfl ⟨by rw [HL.out], below_drew O2.out⟩
  · have HL : Hid (lkp F G x = F (x % 512)) := Lib.hid (if_neg h16)
    obtain ⟨c, d, hcd⟩ : ∃ c d, F (x % 512) = (c, d) := ⟨_, _, rfl⟩
    rw [hcd] at ca cb HL h16
    have h16' : ((c : Int) == 16) = false := by simp; simp at h16; omega
    clear hl hcd h h16
    go_enter Tryd.func101, Tryd.ntmps101
    go_wp2
    exact bodyPost_ret (v := .agg #[.int .u16 c, .int .u16 d]) (by simp [results, Tryd.results101, go_sem]) rfl ⟨by rw [HL.out], grows (below_alloc _ _) (below_alloc _ _)⟩
end Go.Proofs.YtgbdecnaamlekaaDoor.Pd
