/-
  gzhead.Parse, called with any string and any place: the head, the place behind it, what is wrong.
  Conditions: a string of at most 2^48 bytes.
-/
import Derived.Test.YtgilfjojimgpaaaQo
namespace Go.Proofs.Ytgilfjojimgpaaa.Qn
open Go.RowKit Go.Proofs.Ytgilfjojimgpaaa.Vm Go.Proofs.Ytgilfjojimgpaaa.Vo Go.Proofs.Ytgilfjojimgpaaa.Vf Go.Proofs.Ytgilfjojimgpaaa.Bw Go.Proofs.Ytgilfjojimgpaaa.Bm Go.Proofs.Ytgilfjojimgpaaa.Qm Go.Proofs.Ytgilfjojimgpaaa.Qa Go.Proofs.Ytgilfjojimgpaaa.Qb Go.Proofs.Ytgilfjojimgpaaa.Qc Go.Proofs.Ytgilfjojimgpaaa.Qd Go.Proofs.Ytgilfjojimgpaaa.Qe Go.Proofs.Ytgilfjojimgpaaa.Qh Go.Proofs.Ytgilfjojimgpaaa.Qi Go.Proofs.Ytgilfjojimgpaaa.Qj Go.Proofs.Ytgilfjojimgpaaa.Ql Go.Proofs.Ytgilfjojimgpaaa.Qo

theorem results_cell3 {P : Program} {fn : Func} {p u v : Tmp} {ty : TypeId} (h : fn.results = #[.cell p ty, .tmp u, .tmp v]) (tmps : Array Value) (w : World) (g : Nat) (t : TypeId) (cs : Array Value) (d : TypeDesc) (x y : Value)
    (hp : tmps.getD p undef = .pointer (some ⟨g, 0, none⟩)) (hx : tmps.getD u undef = x) (hy : tmps.getD v undef = y) (hg : Blk w g t cs) (hu : P.underlying ty = some d) (hd : (match d with | .struct _ | .array _ _ => true | _ => false) = true) (hi : (P.info? ty).map (·.size) = some cs.size) :
    (results fn tmps).run P w = .ok (.tuple #[.agg cs, x, y]) w := by
  have hp' : tmps[p]?.getD undef = .pointer (some ⟨g, 0, none⟩) := by simpa using hp
  have hx' : tmps[u]?.getD undef = x := by simpa using hx
  have hy' : tmps[v]?.getD undef = y := by simpa using hy
  simp only [results, h]
  simp [hp', hx', hy', asAddr, run_loadVar_row w g t ty cs (0, 0) d hg hu hd hi]
theorem below_row {B : Nat} {W a : World} (h : Below B W a) {g : Nat} (hg : B ≤ g) (cs : Array Value) : Below B W (a.setRow g cs) :=
  ⟨h.os, h.tape, h.output, by rw [setRow_size]; exact h.size, fun k hk => (setRow_other a g k cs (by omega)).trans (h.block k hk)⟩
/-- The zero head's cells. -/
abbrev z9 : Array Value := cs9 0 ⟨#[]⟩ ⟨#[]⟩ ⟨#[]⟩ 0 0 false false 0
/-- What Parse answers of a text l from a on: the head, the place behind it, the error. -/
def psR (l : List UInt8) (a : Int) (q : Hq) (z er : Int) : Prop :=
  (a < 0 ∧ q = zQ ∧ z = 0 ∧ er = 1) ∨ ∃ (p k : Nat), a = (p : Int) ∧ prsQ crl (l.drop p) = (er, q, k) ∧ z = if er = 0 then ((p + k : Nat) : Int) else 0
def psA (l : List UInt8) (a : Int) (w : World) (e' : Ending) (w' : World) : Prop :=
  (∃ (t : Int) (e n c : ByteArray) (v o : Int) (x m : Bool) (f z er : Int), e' = .returned (.tuple #[.agg (cs9 t e n c v o x m f), .int .i64 z, .int .i64 er]) ∧ psR l a (hq t e n c v o x m f) z er) ∧ Below w.heap.size w w'
theorem psA_no {l : List UInt8} {a : Int} {w w' : World} {e' : Ending} {er : Int} (h : e' = .returned (.tuple #[.agg z9, .int .i64 0, .int .i64 er])) (hr : psR l a zQ 0 er) (hb : Below w.heap.size w w') : psA l a w e' w' :=
  ⟨⟨0, ⟨#[]⟩, ⟨#[]⟩, ⟨#[]⟩, 0, 0, false, false, 0, 0, er, h, hr⟩, hb⟩
/-- What is wrong at the beginning. -/
theorem bg_no {l : List UInt8} {a : Int} (h : (bgR l a).2 ≠ 0) : psR l a zQ 0 (bgR l a).2 ∧ (bgR l a).1 = 0 := by
  unfold bgR at h ⊢
  by_cases h0 : a < 0
  · rw [if_pos h0]; exact ⟨.inl ⟨h0, rfl, rfl, rfl⟩, rfl⟩
  rw [if_neg h0] at h ⊢
  obtain ⟨p, rfl⟩ := Int.eq_ofNat_of_zero_le (show 0 ≤ a by omega)
  rw [Int.toNat_natCast] at h ⊢
  have hl : (l.drop p).length = l.length - p := List.length_drop
  by_cases h1 : (l.length : Int) - (p : Int) < 10
  · rw [if_pos h1]
    exact ⟨.inr ⟨p, 0, rfl, by unfold prsQ; rw [if_pos (by omega)], rfl⟩, rfl⟩
  rw [if_neg h1] at h ⊢
  by_cases h2 : (l.drop p).take 3 ≠ [31, 139, 8]
  · rw [if_pos h2]
    exact ⟨.inr ⟨p, 0, rfl, by unfold prsQ; rw [if_neg (by omega), if_pos h2], rfl⟩, rfl⟩
  rw [if_neg h2] at h ⊢
  by_cases h3 : 32 ≤ ((l.drop p).getD 3 0).toNat
  · rw [if_pos h3]
    exact ⟨.inr ⟨p, 0, rfl, by unfold prsQ; rw [if_neg (by omega), if_neg h2, if_pos h3], rfl⟩, rfl⟩
  rw [if_neg h3] at h
  exact absurd rfl h
theorem bg_yes {l : List UInt8} {a : Int} (h : (bgR l a).2 = 0) : ∃ (p F : Nat), a = (p : Int) ∧ (bgR l a).1 = (F : Int) ∧ p + 10 ≤ l.length ∧ (l.drop p).take 3 = [31, 139, 8] ∧ ((l.drop p).getD 3 0).toNat = F ∧ F < 32 := by
  unfold bgR at h ⊢
  by_cases h0 : a < 0
  · rw [if_pos h0] at h; cases h
  rw [if_neg h0] at h ⊢
  obtain ⟨p, rfl⟩ := Int.eq_ofNat_of_zero_le (show 0 ≤ a by omega)
  rw [Int.toNat_natCast] at h ⊢
  by_cases h1 : (l.length : Int) - (p : Int) < 10
  · rw [if_pos h1] at h; cases h
  rw [if_neg h1] at h ⊢
  by_cases h2 : (l.drop p).take 3 ≠ [31, 139, 8]
  · rw [if_pos h2] at h; cases h
  rw [if_neg h2] at h ⊢
  by_cases h3 : 32 ≤ ((l.drop p).getD 3 0).toNat
  · rw [if_pos h3] at h; cases h
  rw [if_neg h3]
  exact ⟨p, _, rfl, rfl, by omega, Decidable.not_not.1 h2, rfl, by omega⟩
theorem flag_nat : ∀ F, F < 32 → (F &&& 1 = F % 2) ∧ (F &&& 2 = F / 2 % 2 * 2) ∧ (F &&& 28 = F / 4 * 4) ∧ (F &&& 4 = F / 4 % 2 * 4) ∧ (F &&& 8 = F / 8 % 2 * 8) ∧ (F &&& 16 = F / 16 % 2 * 16) := by decide
theorem flag_int {F : Nat} (h : F < 32) : (bits .and .i64 (F : Int) 1 = ((F % 2 : Nat) : Int)) ∧ (bits .and .i64 (F : Int) 2 = ((F / 2 % 2 * 2 : Nat) : Int)) ∧ (bits .and .i64 (F : Int) 28 = ((F / 4 * 4 : Nat) : Int)) ∧ (bits .and .i64 (F : Int) 4 = ((F / 4 % 2 * 4 : Nat) : Int)) ∧ (bits .and .i64 (F : Int) 8 = ((F / 8 % 2 * 8 : Nat) : Int)) ∧ (bits .and .i64 (F : Int) 16 = ((F / 16 % 2 * 16 : Nat) : Int)) := by
  obtain ⟨a, b, c, d, e, f⟩ := flag_nat F h
  refine ⟨?_, ?_, ?_, ?_, ?_, ?_⟩
  · rw [← a]; exact and64 F 1 (by omega) (by omega)
  · rw [← b]; exact and64 F 2 (by omega) (by omega)
  · rw [← c]; exact and64 F 28 (by omega) (by omega)
  · rw [← d]; exact and64 F 4 (by omega) (by omega)
  · rw [← e]; exact and64 F 8 (by omega) (by omega)
  · rw [← f]; exact and64 F 16 (by omega) (by omega)

/-- What the steps came to. -/
def chOk (l : List UInt8) (p : Nat) (R : Rd) (x m : Bool) (f : Int) : Prop := ∃ k, prsQ crl (l.drop p) = (R.x, (if R.x = 0 then ⟨R.t, R.e, R.n, R.c, R.v, R.o, x, m, f⟩ else zQ), k) ∧ (R.x = 0 → R.a = p + k)
def isT (b : Bool) : Prop := b = true
def isF (b : Bool) : Prop := b = false
theorem store_hd {w : World} {g : Nat} {old cs : Array Value} (h : Blk w g 23 old) (ho : old.size = 9) (hs : cs.size = 9) (h1 : cs.all (·.oneCell') = true) : (storeVar 23 ⟨g, 0, none⟩ (.agg cs)).run Try.prog w = .ok () (w.setRow g cs) :=
  run_storeVar_row w g _ _ old cs h (by rw [hs]; exact sizeHd) (by rw [ho, hs]) h1
theorem load_hd {w : World} {g : Nat} {cs : Array Value} (h : Blk w g 23 cs) (hs : cs.size = 9) : (loadVar 23 ⟨g, 0, none⟩).run Try.prog w = .ok (.agg cs) w :=
  run_loadVar_row w g _ _ cs (0, 0) _ h Try.underlying23 rfl (by rw [hs]; exact sizeHd)
theorem nine_frozen {w : World} {g : Nat} {t : TypeId} {cs : Array Value} (h : Blk w g t cs) : w.frozen? ⟨g, 0, none⟩ = false ∧ w.frozen? ⟨g, 1, none⟩ = false ∧ w.frozen? ⟨g, 2, none⟩ = false ∧ w.frozen? ⟨g, 3, none⟩ = false ∧ w.frozen? ⟨g, 4, none⟩ = false ∧ w.frozen? ⟨g, 5, none⟩ = false ∧ w.frozen? ⟨g, 6, none⟩ = false ∧ w.frozen? ⟨g, 7, none⟩ = false ∧ w.frozen? ⟨g, 8, none⟩ = false :=
  ⟨h.frozen 0, h.frozen 1, h.frozen 2, h.frozen 3, h.frozen 4, h.frozen 5, h.frozen 6, h.frozen 7, h.frozen 8⟩
theorem blk_drew {w : World} {g : Nat} {T : TypeId} {cs : Array Value} (h : Blk w g T cs) : Blk w.drew g T cs := h
/-- A head that is laid over another one, cell by cell. -/
theorem over_blk {w : World} {g : Nat} {T : TypeId} {t0 : Int} {e0 n0 c0 : ByteArray} {v0 o0 : Int} {x0 m0 : Bool} {f0 : Int} (h : Blk w g T (cs9 t0 e0 n0 c0 v0 o0 x0 m0 f0)) (t : Int) (e n c : ByteArray) (v o : Int) (x m : Bool) (f : Int) : Blk (((((((((w.setCell ⟨g, 0, none⟩ (.int .i64 t)).setCell ⟨g, 1, none⟩ (.string e)).setCell ⟨g, 2, none⟩ (.string n)).setCell ⟨g, 3, none⟩ (.string c)).setCell ⟨g, 4, none⟩ (.int .i64 v)).setCell ⟨g, 5, none⟩ (.int .i64 o)).setCell ⟨g, 6, none⟩ (.bool x)).setCell ⟨g, 7, none⟩ (.bool m)).setCell ⟨g, 8, none⟩ (.int .i64 f)).drew g T (cs9 t e n c v o x m f) := by
  have h0 : Blk (w.setCell ⟨g, 0, none⟩ (.int .i64 t)) g T (cs9 t e0 n0 c0 v0 o0 x0 m0 f0) := h.store 0 (.int .i64 t)
  have h1 : Blk ((w.setCell ⟨g, 0, none⟩ (.int .i64 t)).setCell ⟨g, 1, none⟩ (.string e)) g T (cs9 t e n0 c0 v0 o0 x0 m0 f0) := h0.store 1 (.string e)
  have h2 : Blk (((w.setCell ⟨g, 0, none⟩ (.int .i64 t)).setCell ⟨g, 1, none⟩ (.string e)).setCell ⟨g, 2, none⟩ (.string n)) g T (cs9 t e n c0 v0 o0 x0 m0 f0) := h1.store 2 (.string n)
  have h3 : Blk ((((w.setCell ⟨g, 0, none⟩ (.int .i64 t)).setCell ⟨g, 1, none⟩ (.string e)).setCell ⟨g, 2, none⟩ (.string n)).setCell ⟨g, 3, none⟩ (.string c)) g T (cs9 t e n c v0 o0 x0 m0 f0) := h2.store 3 (.string c)
  have h4 : Blk (((((w.setCell ⟨g, 0, none⟩ (.int .i64 t)).setCell ⟨g, 1, none⟩ (.string e)).setCell ⟨g, 2, none⟩ (.string n)).setCell ⟨g, 3, none⟩ (.string c)).setCell ⟨g, 4, none⟩ (.int .i64 v)) g T (cs9 t e n c v o0 x0 m0 f0) := h3.store 4 (.int .i64 v)
  have h5 : Blk ((((((w.setCell ⟨g, 0, none⟩ (.int .i64 t)).setCell ⟨g, 1, none⟩ (.string e)).setCell ⟨g, 2, none⟩ (.string n)).setCell ⟨g, 3, none⟩ (.string c)).setCell ⟨g, 4, none⟩ (.int .i64 v)).setCell ⟨g, 5, none⟩ (.int .i64 o)) g T (cs9 t e n c v o x0 m0 f0) := h4.store 5 (.int .i64 o)
  have h6 : Blk (((((((w.setCell ⟨g, 0, none⟩ (.int .i64 t)).setCell ⟨g, 1, none⟩ (.string e)).setCell ⟨g, 2, none⟩ (.string n)).setCell ⟨g, 3, none⟩ (.string c)).setCell ⟨g, 4, none⟩ (.int .i64 v)).setCell ⟨g, 5, none⟩ (.int .i64 o)).setCell ⟨g, 6, none⟩ (.bool x)) g T (cs9 t e n c v o x m0 f0) := h5.store 6 (.bool x)
  have h7 : Blk ((((((((w.setCell ⟨g, 0, none⟩ (.int .i64 t)).setCell ⟨g, 1, none⟩ (.string e)).setCell ⟨g, 2, none⟩ (.string n)).setCell ⟨g, 3, none⟩ (.string c)).setCell ⟨g, 4, none⟩ (.int .i64 v)).setCell ⟨g, 5, none⟩ (.int .i64 o)).setCell ⟨g, 6, none⟩ (.bool x)).setCell ⟨g, 7, none⟩ (.bool m)) g T (cs9 t e n c v o x m f0) := h6.store 7 (.bool m)
  have h8 : Blk (((((((((w.setCell ⟨g, 0, none⟩ (.int .i64 t)).setCell ⟨g, 1, none⟩ (.string e)).setCell ⟨g, 2, none⟩ (.string n)).setCell ⟨g, 3, none⟩ (.string c)).setCell ⟨g, 4, none⟩ (.int .i64 v)).setCell ⟨g, 5, none⟩ (.int .i64 o)).setCell ⟨g, 6, none⟩ (.bool x)).setCell ⟨g, 7, none⟩ (.bool m)).setCell ⟨g, 8, none⟩ (.int .i64 f)) g T (cs9 t e n c v o x m f) := h7.store 8 (.int .i64 f)
  exact blk_drew h8
theorem over_below {W w : World} {g : Nat} (h : Below W.heap.size W w) (hg : W.heap.size ≤ g) (t : Int) (e n c : ByteArray) (v o : Int) (x m : Bool) (f : Int) : Below W.heap.size W (((((((((w.setCell ⟨g, 0, none⟩ (.int .i64 t)).setCell ⟨g, 1, none⟩ (.string e)).setCell ⟨g, 2, none⟩ (.string n)).setCell ⟨g, 3, none⟩ (.string c)).setCell ⟨g, 4, none⟩ (.int .i64 v)).setCell ⟨g, 5, none⟩ (.int .i64 o)).setCell ⟨g, 6, none⟩ (.bool x)).setCell ⟨g, 7, none⟩ (.bool m)).setCell ⟨g, 8, none⟩ (.int .i64 f)).drew := by
  have h0 : Below W.heap.size W (w.setCell ⟨g, 0, none⟩ (.int .i64 t)) := h.setCell (p := ⟨g, 0, none⟩) hg (.int .i64 t)
  have h1 : Below W.heap.size W ((w.setCell ⟨g, 0, none⟩ (.int .i64 t)).setCell ⟨g, 1, none⟩ (.string e)) := h0.setCell (p := ⟨g, 1, none⟩) hg (.string e)
  have h2 : Below W.heap.size W (((w.setCell ⟨g, 0, none⟩ (.int .i64 t)).setCell ⟨g, 1, none⟩ (.string e)).setCell ⟨g, 2, none⟩ (.string n)) := h1.setCell (p := ⟨g, 2, none⟩) hg (.string n)
  have h3 : Below W.heap.size W ((((w.setCell ⟨g, 0, none⟩ (.int .i64 t)).setCell ⟨g, 1, none⟩ (.string e)).setCell ⟨g, 2, none⟩ (.string n)).setCell ⟨g, 3, none⟩ (.string c)) := h2.setCell (p := ⟨g, 3, none⟩) hg (.string c)
  have h4 : Below W.heap.size W (((((w.setCell ⟨g, 0, none⟩ (.int .i64 t)).setCell ⟨g, 1, none⟩ (.string e)).setCell ⟨g, 2, none⟩ (.string n)).setCell ⟨g, 3, none⟩ (.string c)).setCell ⟨g, 4, none⟩ (.int .i64 v)) := h3.setCell (p := ⟨g, 4, none⟩) hg (.int .i64 v)
  have h5 : Below W.heap.size W ((((((w.setCell ⟨g, 0, none⟩ (.int .i64 t)).setCell ⟨g, 1, none⟩ (.string e)).setCell ⟨g, 2, none⟩ (.string n)).setCell ⟨g, 3, none⟩ (.string c)).setCell ⟨g, 4, none⟩ (.int .i64 v)).setCell ⟨g, 5, none⟩ (.int .i64 o)) := h4.setCell (p := ⟨g, 5, none⟩) hg (.int .i64 o)
  have h6 : Below W.heap.size W (((((((w.setCell ⟨g, 0, none⟩ (.int .i64 t)).setCell ⟨g, 1, none⟩ (.string e)).setCell ⟨g, 2, none⟩ (.string n)).setCell ⟨g, 3, none⟩ (.string c)).setCell ⟨g, 4, none⟩ (.int .i64 v)).setCell ⟨g, 5, none⟩ (.int .i64 o)).setCell ⟨g, 6, none⟩ (.bool x)) := h5.setCell (p := ⟨g, 6, none⟩) hg (.bool x)
  have h7 : Below W.heap.size W ((((((((w.setCell ⟨g, 0, none⟩ (.int .i64 t)).setCell ⟨g, 1, none⟩ (.string e)).setCell ⟨g, 2, none⟩ (.string n)).setCell ⟨g, 3, none⟩ (.string c)).setCell ⟨g, 4, none⟩ (.int .i64 v)).setCell ⟨g, 5, none⟩ (.int .i64 o)).setCell ⟨g, 6, none⟩ (.bool x)).setCell ⟨g, 7, none⟩ (.bool m)) := h6.setCell (p := ⟨g, 7, none⟩) hg (.bool m)
  have h8 : Below W.heap.size W (((((((((w.setCell ⟨g, 0, none⟩ (.int .i64 t)).setCell ⟨g, 1, none⟩ (.string e)).setCell ⟨g, 2, none⟩ (.string n)).setCell ⟨g, 3, none⟩ (.string c)).setCell ⟨g, 4, none⟩ (.int .i64 v)).setCell ⟨g, 5, none⟩ (.int .i64 o)).setCell ⟨g, 6, none⟩ (.bool x)).setCell ⟨g, 7, none⟩ (.bool m)).setCell ⟨g, 8, none⟩ (.int .i64 f)) := h7.setCell (p := ⟨g, 8, none⟩) hg (.int .i64 f)
  exact h8.drew
theorem cell_row {w : World} {g b i : Nat} {cs : Array Value} {v : Value} (h : w.cell? ⟨b, i, none⟩ = some v) (hne : b ≠ g) : (w.setRow g cs).cell? ⟨b, i, none⟩ = some v := by
  rw [← h]
  unfold World.cell?
  rw [setRow_other w g b cs hne]
/-- The state of Parse: the cursor, the head, the result's cell. -/
structure ps (w u : World) (s : ByteArray) (f : Int) (a : Nat) (x : Int) (cs : Array Value) : Prop where
  c : cu u (w.heap.size + 1) s a f x
  h : Blk u (w.heap.size + 1 + 1) 23 cs
  r : Blk u w.heap.size 23 z9
  b : Below w.heap.size w u
section
variable {w u u' : World} {s : ByteArray} {f : Int} {a a' : Nat} {x x' : Int} {cs : Array Value}
theorem ps.call (k : ps w u s f a x cs) (c : cu u' (w.heap.size + 1) s a' f x') (o : Only (At (w.heap.size + 1)) u u') : ps w u' s f a' x' cs :=
  ⟨c, k.h.only o (fun e => by have : w.heap.size + 1 + 1 = w.heap.size + 1 := e; omega), k.r.only o (fun e => by have : w.heap.size = w.heap.size + 1 := e; omega), o.below k.b (by have := k.b.size; omega) (fun i hi => by have : i = w.heap.size + 1 := hi; omega)⟩
theorem ps.put (k : ps w u s f a x cs) (i : Nat) (v : Value) : ps w (u.setCell ⟨w.heap.size + 1 + 1, i, none⟩ v) s f a x (cs.setIfInBounds i v) := by
  have o : Only (At (w.heap.size + 1 + 1)) u (u.setCell ⟨w.heap.size + 1 + 1, i, none⟩ v) := only_set i v
  exact ⟨k.c.only o (fun e => by have : w.heap.size + 1 = w.heap.size + 1 + 1 := e; omega), k.h.store i v, k.r.only o (fun e => by have : w.heap.size = w.heap.size + 1 + 1 := e; omega), o.below k.b (by have := k.b.size; omega) (fun i hi => by have : i = w.heap.size + 1 + 1 := hi; omega)⟩
end
set_option maxHeartbeats 1000000 in
set_option maxRecDepth 100000 in
theorem Parse_no (s : ByteArray) (a : Int) (w : World) (hs : s.size ≤ 281474976710656) (h0 : -9223372036854775808 ≤ a) (h1 : a ≤ 9223372036854775807) (h : (bgR s.data.toList a).2 ≠ 0) :
    Calls Try.prog 13 #[.string s, .int .i64 a] w (psA s.data.toList a w) := by
  have HB := Lib.hid (begin_any s a · hs h0 h1)
  have HR := Lib.hid (bg_no h)
  obtain ⟨F, hF⟩ : ∃ F, F = (bgR s.data.toList a).1 := ⟨_, rfl⟩
  obtain ⟨x, hx⟩ : ∃ x, x = (bgR s.data.toList a).2 := ⟨_, rfl⟩
  rw [← hF, ← hx] at HB HR
  rw [← hx] at h
  have hne : (x != 0) = true := by simpa using h
  obtain ⟨w1, hw1⟩ : ∃ w1, w1 = w.alloc (.cells z9 23) := ⟨_, rfl⟩
  have K1 : Hid (Blk w1 w.heap.size 23 z9) := Lib.hid (by rw [hw1]; exact Blk.fresh w _ _)
  have B1 : Hid (Below w.heap.size w w1) := Lib.hid (by rw [hw1]; exact (Below.refl _ w).alloc (Nat.le_refl _) _)
  clear hF hx h
  go_enter Try.func13, Try.ntmps13
  go_wp2_with fail
  rw [← hw1]
  refine (HB.out w1).mono ?_
  rintro e' w2 ⟨rfl, rfl⟩
  clear hw1
  go_wp2_with (refine wpList_store_row rfl 23 _ _ rfl w.heap.size z9 rfl rfl _ _ K1.out sizeHd rfl (one9 _ _ _ _ _ _ _ _ _) ?_)
  refine bodyPost_ret (v := .tuple #[.agg z9, .int .i64 0, .int .i64 x]) (results_cell3 rfl _ _ w.heap.size 23 _ _ _ _ rfl rfl rfl (setRow_heap _ _ _ _ _ _ K1.out) Try.underlying23 rfl sizeHd) rfl ?_
  exact psA_no rfl HR.out.1 (below_row B1.out (Nat.le_refl _) _)

set_option maxHeartbeats 4000000 in
set_option maxRecDepth 100000 in
theorem Parse_yes (s : ByteArray) (a : Int) (w : World) (hs : s.size ≤ 281474976710656) (h0 : -9223372036854775808 ≤ a) (h1 : a ≤ 9223372036854775807) (h : (bgR s.data.toList a).2 = 0) :
    Calls Try.prog 13 #[.string s, .int .i64 a] w (psA s.data.toList a w) := by
  have HB := Lib.hid (begin_any s a · hs h0 h1)
  obtain ⟨p, F, rfl, g1, g2, g3, g4, g5⟩ := bg_yes h
  rw [g1, h] at HB
  have hle := len_eq s
  have hp : p + 10 ≤ s.size := by omega
  have hp48 : p ≤ 281474976710646 := by omega
  obtain ⟨i1, i2, i28, i4, i8, i16⟩ := flag_int g5
  obtain ⟨z1, hz1⟩ : ∃ z : Int, z = ((F % 2 : Nat) : Int) := ⟨_, rfl⟩
  obtain ⟨z2, hz2⟩ : ∃ z : Int, z = ((F / 2 % 2 * 2 : Nat) : Int) := ⟨_, rfl⟩
  obtain ⟨z28, hz28⟩ : ∃ z : Int, z = ((F / 4 * 4 : Nat) : Int) := ⟨_, rfl⟩
  obtain ⟨z4, hz4⟩ : ∃ z : Int, z = ((F / 4 % 2 * 4 : Nat) : Int) := ⟨_, rfl⟩
  obtain ⟨z8, hz8⟩ : ∃ z : Int, z = ((F / 8 % 2 * 8 : Nat) : Int) := ⟨_, rfl⟩
  obtain ⟨z16, hz16⟩ : ∃ z : Int, z = ((F / 16 % 2 * 16 : Nat) : Int) := ⟨_, rfl⟩
  rw [← hz1] at i1; rw [← hz2] at i2; rw [← hz28] at i28; rw [← hz4] at i4; rw [← hz8] at i8; rw [← hz16] at i16
  obtain ⟨bx, hbx⟩ : ∃ b, (z1 != 0) = b := ⟨_, rfl⟩
  obtain ⟨bm, hbm⟩ : ∃ b, (z2 != 0) = b := ⟨_, rfl⟩
  have HCH := Lib.hid (chain_is (l := s.data.toList) (b := p) (F := F) (z4 := z4) (z8 := z8) (z16 := z16) (x := bx) (m := bm) (f := z28) (by omega) g3 g4 g5 (by rw [hz4]; omega) (by rw [hz8]; omega) (by rw [hz16]; omega) (by rw [← hbx, Bool.eq_iff_iff]; simp [hz1]; omega) (by rw [← hbm, Bool.eq_iff_iff]; simp [hz2]; omega) hz28)
  have I4 := Lib.hid i4; have I8 := Lib.hid i8; have I16 := Lib.hid i16
  obtain ⟨T, a1, e1, hr1⟩ : ∃ T a1 e1, nuR s.data.toList (p + 4) 0 4 = (T, a1, e1) := ⟨_, _, _, rfl⟩
  obtain ⟨V, a2, e2, hr2⟩ : ∃ T a1' e1', nuR s.data.toList a1 e1 1 = (T, a1', e1') := ⟨_, _, _, rfl⟩
  obtain ⟨O, a3, e3, hr3⟩ : ∃ T a1' e1', nuR s.data.toList a2 e2 1 = (T, a1', e1') := ⟨_, _, _, rfl⟩
  obtain ⟨E, a4, e4, hr4⟩ : ∃ T a1' e1', fiR z4 s.data.toList a3 e3 (szR s.data.toList a3) = (T, a1', e1') := ⟨_, _, _, rfl⟩
  obtain ⟨N, a5, e5, hr5⟩ : ∃ T a1' e1', fiR z8 s.data.toList a4 e4 (zeR s.data.toList a4) = (T, a1', e1') := ⟨_, _, _, rfl⟩
  obtain ⟨C, a6, e6, hr6⟩ : ∃ T a1' e1', fiR z16 s.data.toList a5 e5 (zeR s.data.toList a5) = (T, a1', e1') := ⟨_, _, _, rfl⟩
  have l1 : a1 ≤ s.size := by have := nu_le (l := s.data.toList) (a := p + 4) (e := 0) (k := 4) (by omega); rw [hr1] at this; simpa [hle] using this
  have l2 : a2 ≤ s.size := by have := nu_le (l := s.data.toList) (a := a1) (e := e1) (k := 1) (by omega); rw [hr2] at this; simpa [hle] using this
  have l3 : a3 ≤ s.size := by have := nu_le (l := s.data.toList) (a := a2) (e := e2) (k := 1) (by omega); rw [hr3] at this; simpa [hle] using this
  have l4 : a4 ≤ s.size := by have := fi_le (z := z4) (l := s.data.toList) (a := a3) (e := e3) (by omega) (sz_le (a := a3) (by omega)); rw [hr4] at this; simpa [hle] using this
  have l5 : a5 ≤ s.size := by have := fi_le (z := z8) (l := s.data.toList) (a := a4) (e := e4) (by omega) (ze_le (a := a4) (by omega)); rw [hr5] at this; simpa [hle] using this
  have l6 : a6 ≤ s.size := by have := fi_le (z := z16) (l := s.data.toList) (a := a5) (e := e5) (by omega) (ze_le (a := a5) (by omega)); rw [hr6] at this; simpa [hle] using this
  have l0 : p ≤ a6 := by
    have m1 : p + 4 ≤ a1 := by have := nu_ge (l := s.data.toList) (a := p + 4) (e := 0) (k := 4); rw [hr1] at this; exact this
    have m2 : a1 ≤ a2 := by have := nu_ge (l := s.data.toList) (a := a1) (e := e1) (k := 1); rw [hr2] at this; exact this
    have m3 : a2 ≤ a3 := by have := nu_ge (l := s.data.toList) (a := a2) (e := e2) (k := 1); rw [hr3] at this; exact this
    have m4 : a3 ≤ a4 := by have := fi_ge (z := z4) (l := s.data.toList) (a := a3) (e := e3) (sz_ge (l := s.data.toList) (a := a3)); rw [hr4] at this; exact this
    have m5 : a4 ≤ a5 := by have := fi_ge (z := z8) (l := s.data.toList) (a := a4) (e := e4) (ze_ge (l := s.data.toList) (a := a4)); rw [hr5] at this; exact this
    have m6 : a5 ≤ a6 := by have := fi_ge (z := z16) (l := s.data.toList) (a := a5) (e := e5) (ze_ge (l := s.data.toList) (a := a5)); rw [hr6] at this; exact this
    omega
  obtain ⟨a8, e8, hr8⟩ : ∃ a8 e8, smR s.data.toList p a6 e6 = (a8, e8) := ⟨_, _, rfl⟩
  obtain ⟨a7, e7, hr7⟩ : ∃ a7 e7, (if bm = true then smR s.data.toList p a6 e6 else (a6, e6)) = (a7, e7) := ⟨_, _, rfl⟩
  have hch : chain s.data.toList p z4 z8 z16 bm = ⟨T, V, O, E, N, C, a7, e7⟩ := by unfold chain; simp only [hr1, hr2, hr3, hr4, hr5, hr6, hr7]
  rw [hch] at HCH
  have HCK : Hid (chOk s.data.toList p ⟨T, V, O, E, N, C, a7, e7⟩ bx bm z28) := Lib.hid HCH.out
  clear HCH
  have N1 : Hid (∀ u, cu u (w.heap.size + 1) s (p + 4) F 0 → Calls Try.prog 27 #[.pointer (some ⟨w.heap.size + 1, 0, none⟩), .int .i64 4] u fun e' w' => e' = .returned (.int .i64 T) ∧ cu w' (w.heap.size + 1) s a1 F e1 ∧ Only (At (w.heap.size + 1)) u w') := Lib.hid (fun u k => by have := number_any 4 k (.inr (.inr rfl)) hs (by omega); rw [hr1] at this; exact this)
  have N2 : Hid (∀ u, cu u (w.heap.size + 1) s a1 F e1 → Calls Try.prog 27 #[.pointer (some ⟨w.heap.size + 1, 0, none⟩), .int .i64 1] u fun e' w' => e' = .returned (.int .i64 V) ∧ cu w' (w.heap.size + 1) s a2 F e2 ∧ Only (At (w.heap.size + 1)) u w') := Lib.hid (fun u k => by have := number_any 1 k (.inl rfl) hs l1; rw [hr2] at this; exact this)
  have N3 : Hid (∀ u, cu u (w.heap.size + 1) s a2 F e2 → Calls Try.prog 27 #[.pointer (some ⟨w.heap.size + 1, 0, none⟩), .int .i64 1] u fun e' w' => e' = .returned (.int .i64 O) ∧ cu w' (w.heap.size + 1) s a3 F e3 ∧ Only (At (w.heap.size + 1)) u w') := Lib.hid (fun u k => by have := number_any 1 k (.inl rfl) hs l2; rw [hr3] at this; exact this)
  have N4 : Hid (∀ u, cu u (w.heap.size + 1) s a3 F e3 → Calls Try.prog 28 #[.pointer (some ⟨w.heap.size + 1, 0, none⟩), .int .i64 4, .func (.func 29) #[.pointer (some ⟨w.heap.size + 1, 0, none⟩)] #[]] u (gave (w.heap.size + 1) s F u (E, a4, e4))) := Lib.hid (fun u k => by have := field_sized 4 k i4 hs l3; rw [hr4] at this; exact this)
  have N5 : Hid (∀ u, cu u (w.heap.size + 1) s a4 F e4 → Calls Try.prog 28 #[.pointer (some ⟨w.heap.size + 1, 0, none⟩), .int .i64 8, .func (.func 30) #[.pointer (some ⟨w.heap.size + 1, 0, none⟩)] #[]] u (gave (w.heap.size + 1) s F u (N, a5, e5))) := Lib.hid (fun u k => by have := field_zero 8 k i8 hs l4; rw [hr5] at this; exact this)
  have N6 : Hid (∀ u, cu u (w.heap.size + 1) s a5 F e5 → Calls Try.prog 28 #[.pointer (some ⟨w.heap.size + 1, 0, none⟩), .int .i64 16, .func (.func 30) #[.pointer (some ⟨w.heap.size + 1, 0, none⟩)] #[]] u (gave (w.heap.size + 1) s F u (C, a6, e6))) := Lib.hid (fun u k => by have := field_zero 16 k i16 hs l5; rw [hr6] at this; exact this)
  have N7 : Hid (∀ u, cu u (w.heap.size + 1) s a6 F e6 → Calls Try.prog 31 #[.pointer (some ⟨w.heap.size + 1, 0, none⟩), .int .i64 (p : Int)] u fun e' w' => e' = .returned (.tuple #[]) ∧ cu w' (w.heap.size + 1) s a8 F e8 ∧ Only (At (w.heap.size + 1)) u w') := Lib.hid (fun u k => by have := sum_any k hs l6 l0; rw [hr8] at this; exact this)
  have N8 : Hid (isF bm → a6 = a7 ∧ e6 = e7) := Lib.hid (fun hb => by unfold isF at hb; rw [hb, if_neg (by simp)] at hr7; exact ⟨congrArg Prod.fst hr7, congrArg Prod.snd hr7⟩)
  have N9 : Hid (isT bm → a8 = a7 ∧ e8 = e7) := Lib.hid (fun hb => by unfold isT at hb; rw [hb, if_pos rfl, hr8] at hr7; exact ⟨congrArg Prod.fst hr7, congrArg Prod.snd hr7⟩)
  have P0 : (p : Int) + 3 + 1 = ((p + 4 : Nat) : Int) := by push_cast; omega
  have HP0 := Lib.hid P0
  have K3 : Hid (ps w (((w.alloc (.cells z9 23)).alloc (.cells #[.string s, .int .i64 ((p : Int) + 3 + 1), .int .i64 (F : Int), .int .i64 0] 48)).alloc (.cells (cs9 0 ⟨#[]⟩ ⟨#[]⟩ ⟨#[]⟩ 0 0 bx bm z28) 23)) s F (p + 4) 0 (cs9 0 ⟨#[]⟩ ⟨#[]⟩ ⟨#[]⟩ 0 0 bx bm z28)) := Lib.hid (by
    rw [P0]
    have d1 := (Below.refl w.heap.size w).alloc (Nat.le_refl _) (.cells z9 23)
    have s1 : (w.alloc (.cells z9 23)).heap.size = w.heap.size + 1 := by simp
    have k1 : Blk (w.alloc (.cells z9 23)) w.heap.size 23 z9 := Blk.fresh w _ _
    generalize w.alloc (.cells z9 23) = u1 at *
    have d2 := (Below.refl u1.heap.size u1).alloc (Nat.le_refl _) (.cells #[.string s, .int .i64 ((p + 4 : Nat) : Int), .int .i64 (F : Int), .int .i64 0] 48)
    have s2 : (u1.alloc (.cells #[.string s, .int .i64 ((p + 4 : Nat) : Int), .int .i64 (F : Int), .int .i64 0] 48)).heap.size = u1.heap.size + 1 := by simp
    have k2 : Blk (u1.alloc (.cells #[.string s, .int .i64 ((p + 4 : Nat) : Int), .int .i64 (F : Int), .int .i64 0] 48)) u1.heap.size 48 #[.string s, .int .i64 ((p + 4 : Nat) : Int), .int .i64 (F : Int), .int .i64 0] := Blk.fresh u1 _ _
    generalize u1.alloc (.cells #[.string s, .int .i64 ((p + 4 : Nat) : Int), .int .i64 (F : Int), .int .i64 0] 48) = u2 at *
    have d3 := (Below.refl u2.heap.size u2).alloc (Nat.le_refl _) (.cells (cs9 0 ⟨#[]⟩ ⟨#[]⟩ ⟨#[]⟩ 0 0 bx bm z28) 23)
    have k3 : Blk (u2.alloc (.cells (cs9 0 ⟨#[]⟩ ⟨#[]⟩ ⟨#[]⟩ 0 0 bx bm z28) 23)) u2.heap.size 23 (cs9 0 ⟨#[]⟩ ⟨#[]⟩ ⟨#[]⟩ 0 0 bx bm z28) := Blk.fresh u2 _ _
    rw [s2, s1] at k3
    rw [s1] at k2
    exact ⟨k2.below d3, k3, (k1.below d2).below d3, grows (grows d1 d2) d3⟩)
  obtain ⟨w1, hw1⟩ : ∃ w1, w1 = w.alloc (.cells z9 23) := ⟨_, rfl⟩
  clear h g1 g2 g3 g4 g5 hle hz1 hz2 hz28 hz4 hz8 hz16 i4 i8 i16 hr1 hr2 hr3 hr4 hr5 hr6 hr7 hr8 hch P0
  go_enter Try.func13, Try.ntmps13
  go_wp2_with fail
  rw [← hw1]
  refine (HB.out w1).mono ?_
  rintro e' w2 ⟨rfl, rfl⟩
  rw [hw1]
  obtain ⟨w3, hw3⟩ : ∃ w3, w3 = (((w.alloc (.cells z9 23)).alloc (.cells #[.string s, .int .i64 ((p : Int) + 3 + 1), .int .i64 (F : Int), .int .i64 0] 48)).alloc (.cells (cs9 0 ⟨#[]⟩ ⟨#[]⟩ ⟨#[]⟩ 0 0 bx bm z28) 23)) := ⟨_, rfl⟩
  rw [← hw3] at K3
  clear hw1
  go_wp2_with fail
  rw [← hw3]
  refine (N1.out _ K3.out.c).mono ?_
  rintro e' w4 ⟨rfl, D, Od⟩
  clear hw3
  have K4 := Lib.hid (K3.out.call D Od)
  clear D Od K3
  have c0 : w4.cell? ⟨w.heap.size + 1 + 1, 0, none⟩ = some (.int .i64 0) := K4.out.h.cell 0
  have f0 := K4.out.h.frozen 0
  have K4' := Lib.hid (K4.out.put 0 (.int .i64 T))
  clear K4
  go_wp2_with fail
  clear c0 f0
  refine (N2.out _ K4'.out.c).mono ?_
  rintro e' w5 ⟨rfl, D, Od⟩
  have K5 := Lib.hid (K4'.out.call D Od)
  clear D Od K4'
  have c4 : w5.cell? ⟨w.heap.size + 1 + 1, 4, none⟩ = some (.int .i64 0) := K5.out.h.cell 4
  have f4 := K5.out.h.frozen 4
  have K5' := Lib.hid (K5.out.put 4 (.int .i64 V))
  clear K5
  go_wp2_with fail
  clear c4 f4
  refine (N3.out _ K5'.out.c).mono ?_
  rintro e' w6 ⟨rfl, D, Od⟩
  have K6 := Lib.hid (K5'.out.call D Od)
  clear D Od K5'
  have c5 : w6.cell? ⟨w.heap.size + 1 + 1, 5, none⟩ = some (.int .i64 0) := K6.out.h.cell 5
  have f5 := K6.out.h.frozen 5
  have K6' := Lib.hid (K6.out.put 5 (.int .i64 O))
  clear K6
  go_wp2_with fail
  clear c5 f5
  refine (N4.out _ K6'.out.c).mono ?_
  rintro e' w7 ⟨xE, rfl, hE, D, Od⟩
  have HE := Lib.hid hE
  have K7 := Lib.hid (K6'.out.call D Od)
  clear D Od K6' hE
  have c1 : w7.cell? ⟨w.heap.size + 1 + 1, 1, none⟩ = some (.string ⟨#[]⟩) := K7.out.h.cell 1
  have f1 := K7.out.h.frozen 1
  have K7' := Lib.hid (K7.out.put 1 (.string xE))
  clear K7
  go_wp2_with fail
  clear c1 f1
  refine (N5.out _ K7'.out.c).mono ?_
  rintro e' w8 ⟨xN, rfl, hN, D, Od⟩
  have HN := Lib.hid hN
  have K8 := Lib.hid (K7'.out.call D Od)
  clear D Od K7' hN
  have c2 : w8.cell? ⟨w.heap.size + 1 + 1, 2, none⟩ = some (.string ⟨#[]⟩) := K8.out.h.cell 2
  have f2 := K8.out.h.frozen 2
  have K8' := Lib.hid (K8.out.put 2 (.string xN))
  clear K8
  go_wp2_with fail
  clear c2 f2
  refine (N6.out _ K8'.out.c).mono ?_
  rintro e' w9 ⟨xC, rfl, hC, D, Od⟩
  have HC := Lib.hid hC
  have K9 := Lib.hid (K8'.out.call D Od)
  clear D Od K8' hC
  have c3 : w9.cell? ⟨w.heap.size + 1 + 1, 3, none⟩ = some (.string ⟨#[]⟩) := K9.out.h.cell 3
  have f3 := K9.out.h.frozen 3
  have c7 : w9.cell? ⟨w.heap.size + 1 + 1, 7, none⟩ = some (.bool bm) := K9.out.h.cell 7
  have K9' : Hid (ps w (w9.setCell ⟨w.heap.size + 1 + 1, 3, none⟩ (.string xC)) s F a6 e6 (cs9 T xE xN xC V O bx bm z28)) := Lib.hid (K9.out.put 3 (.string xC))
  have C9 := Lib.hid K9.out.c
  clear K9
  cases bm
  · obtain ⟨j1, j2⟩ := N8.out rfl
    rw [j1, j2] at K9'
    have c30 : w9.cell? ⟨w.heap.size + 1, 3, none⟩ = some (.int .i64 e7) := by rw [← j2]; exact C9.out.c3
    clear N7 N8 N9 j1 j2
    obtain ⟨w10, hw10⟩ : ∃ w10, w10 = w9.setCell ⟨w.heap.size + 1 + 1, 3, none⟩ (.string xC) := ⟨_, rfl⟩
    rw [← hw10] at K9'
    have K10 := K9'
    by_cases he : e7 = 0
    · subst he
      go_wp2_with fail
      rw [← hw10]
      clear hw10
      have q0 : w10.cell? ⟨w.heap.size + 1, 1, none⟩ = some (.int .i64 (a7 : Int)) := K10.out.c.c1
      have HY : Hid (Blk w10.drew w.heap.size 23 z9) := Lib.hid K10.out.r
      have HZ : Hid (Blk w10.drew (w.heap.size + 1 + 1) 23 (cs9 T xE xN xC V O bx false z28)) := Lib.hid K10.out.h
      obtain ⟨n0, n1, n2, n3, n4, n5, n6, n7, n8⟩ := nine K10.out.h
      obtain ⟨r0, r1, r2, r3, r4, r5, r6, r7, r8⟩ := nine K10.out.r
      obtain ⟨g0, g1, g2, g3, g4, g5, g6, g7, g8⟩ := nine_frozen K10.out.r
      go_region
      simp only [Exit.then]
      go_wp2
      refine bodyPost_ret (v := .tuple #[.agg (cs9 T xE xN xC V O bx false z28), .int .i64 (a7 : Int), .int .i64 0]) (results_cell3 rfl _ _ w.heap.size 23 (cs9 T xE xN xC V O bx false z28) _ _ _ rfl rfl rfl (over_blk K10.out.r T xE xN xC V O bx false z28) Try.underlying23 rfl sizeHd) rfl ?_
      obtain ⟨k, k1, k2⟩ := HCK.out
      exact ⟨⟨T, xE, xN, xC, V, O, bx, false, z28, (a7 : Int), 0, rfl, .inr ⟨p, k, rfl, by rw [k1]; unfold hq; rw [HE.out, HN.out, HC.out]; rfl, by rw [show a7 = p + k from k2 rfl]; rfl⟩⟩, over_below K10.out.b (Nat.le_refl _) T xE xN xC V O bx false z28⟩
    · have hne : (e7 != 0) = true := by simpa using he
      have HNE := Lib.hid he
      clear he
      go_wp2_with fail
      rw [← hw10]
      clear hw10
      have q0 : w10.cell? ⟨w.heap.size + 1, 3, none⟩ = some (.int .i64 e7) := K10.out.c.c3
      have HY : Hid (Blk w10.drew w.heap.size 23 z9) := Lib.hid K10.out.r
      obtain ⟨r0, r1, r2, r3, r4, r5, r6, r7, r8⟩ := nine K10.out.r
      obtain ⟨g0, g1, g2, g3, g4, g5, g6, g7, g8⟩ := nine_frozen K10.out.r
      go_region
      simp only [Exit.then]
      go_wp2
      refine bodyPost_ret (v := .tuple #[.agg z9, .int .i64 0, .int .i64 e7]) (results_cell3 rfl _ _ w.heap.size 23 z9 _ _ _ rfl rfl rfl (over_blk K10.out.r 0 ⟨#[]⟩ ⟨#[]⟩ ⟨#[]⟩ 0 0 false false 0) Try.underlying23 rfl sizeHd) rfl ?_
      obtain ⟨k, k1, k2⟩ := HCK.out
      exact psA_no rfl (.inr ⟨p, k, rfl, by rw [k1]; show (e7, (if e7 = 0 then _ else zQ), k) = _; rw [if_neg HNE.out], by rw [if_neg HNE.out]⟩) (over_below K10.out.b (Nat.le_refl _) 0 ⟨#[]⟩ ⟨#[]⟩ ⟨#[]⟩ 0 0 false false 0)
  · obtain ⟨j1, j2⟩ := N9.out rfl
    go_wp2_with fail
    refine (N7.out _ K9'.out.c).mono ?_
    rintro e' w10 ⟨rfl, D, Od⟩
    rw [j1, j2] at D
    have K10 := Lib.hid (K9'.out.call D Od)
    have c30 := D.c3
    clear D Od K9' c3 f3 c7 N7 N8 N9 j1 j2
    by_cases he : e7 = 0
    · subst he
      go_wp2_with fail
      have q0 : w10.cell? ⟨w.heap.size + 1, 1, none⟩ = some (.int .i64 (a7 : Int)) := K10.out.c.c1
      have HY : Hid (Blk w10.drew w.heap.size 23 z9) := Lib.hid K10.out.r
      have HZ : Hid (Blk w10.drew (w.heap.size + 1 + 1) 23 (cs9 T xE xN xC V O bx true z28)) := Lib.hid K10.out.h
      obtain ⟨n0, n1, n2, n3, n4, n5, n6, n7, n8⟩ := nine K10.out.h
      obtain ⟨r0, r1, r2, r3, r4, r5, r6, r7, r8⟩ := nine K10.out.r
      obtain ⟨g0, g1, g2, g3, g4, g5, g6, g7, g8⟩ := nine_frozen K10.out.r
      go_region
      simp only [Exit.then]
      go_wp2
      refine bodyPost_ret (v := .tuple #[.agg (cs9 T xE xN xC V O bx true z28), .int .i64 (a7 : Int), .int .i64 0]) (results_cell3 rfl _ _ w.heap.size 23 (cs9 T xE xN xC V O bx true z28) _ _ _ rfl rfl rfl (over_blk K10.out.r T xE xN xC V O bx true z28) Try.underlying23 rfl sizeHd) rfl ?_
      obtain ⟨k, k1, k2⟩ := HCK.out
      exact ⟨⟨T, xE, xN, xC, V, O, bx, true, z28, (a7 : Int), 0, rfl, .inr ⟨p, k, rfl, by rw [k1]; unfold hq; rw [HE.out, HN.out, HC.out]; rfl, by rw [show a7 = p + k from k2 rfl]; rfl⟩⟩, over_below K10.out.b (Nat.le_refl _) T xE xN xC V O bx true z28⟩
    · have hne : (e7 != 0) = true := by simpa using he
      have HNE := Lib.hid he
      clear he
      go_wp2_with fail
      have q0 : w10.cell? ⟨w.heap.size + 1, 3, none⟩ = some (.int .i64 e7) := K10.out.c.c3
      have HY : Hid (Blk w10.drew w.heap.size 23 z9) := Lib.hid K10.out.r
      obtain ⟨r0, r1, r2, r3, r4, r5, r6, r7, r8⟩ := nine K10.out.r
      obtain ⟨g0, g1, g2, g3, g4, g5, g6, g7, g8⟩ := nine_frozen K10.out.r
      go_region
      simp only [Exit.then]
      go_wp2
      refine bodyPost_ret (v := .tuple #[.agg z9, .int .i64 0, .int .i64 e7]) (results_cell3 rfl _ _ w.heap.size 23 z9 _ _ _ rfl rfl rfl (over_blk K10.out.r 0 ⟨#[]⟩ ⟨#[]⟩ ⟨#[]⟩ 0 0 false false 0) Try.underlying23 rfl sizeHd) rfl ?_
      obtain ⟨k, k1, k2⟩ := HCK.out
      exact psA_no rfl (.inr ⟨p, k, rfl, by rw [k1]; show (e7, (if e7 = 0 then _ else zQ), k) = _; rw [if_neg HNE.out], by rw [if_neg HNE.out]⟩) (over_below K10.out.b (Nat.le_refl _) 0 ⟨#[]⟩ ⟨#[]⟩ ⟨#[]⟩ 0 0 false false 0)
end Go.Proofs.Ytgilfjojimgpaaa.Qn
