/-
  block.readHead and block.Read but for a dynamic head's lengths: what is read is what the numbers say.
  Conditions: a string of at most 2^48 bytes, a place within it.
-/
import Derived.Test.YtgbdecnaamlekaaDoorKd
namespace Go.Proofs.YtgbdecnaamlekaaDoor.Ke
open Go.RowKit Go.Proofs.YtgbdecnaamlekaaDoor.Vm Go.Proofs.YtgbdecnaamlekaaDoor.Vo Go.Proofs.YtgbdecnaamlekaaDoor.Bw Go.Proofs.YtgbdecnaamlekaaDoor.Bm Go.Proofs.YtgbdecnaamlekaaDoor.Br Go.Proofs.YtgbdecnaamlekaaDoor.Bs Go.Proofs.YtgbdecnaamlekaaDoor.Na Go.Proofs.YtgbdecnaamlekaaDoor.Nm Go.Proofs.YtgbdecnaamlekaaDoor.Ko Go.Proofs.YtgbdecnaamlekaaDoor.Nf Go.Proofs.YtgbdecnaamlekaaDoor.Ka Go.Proofs.YtgbdecnaamlekaaDoor.Kb Go.Proofs.YtgbdecnaamlekaaDoor.Km Go.Proofs.YtgbdecnaamlekaaDoor.Kc Go.Proofs.YtgbdecnaamlekaaDoor.Kd

/-- A head as a value. -/
abbrev hv (b : Bool) (k z : Int) (v1 v2 : Value) : Value := .agg #[.bool b, .int .i64 k, .int .i64 z, v1, v2]
/-- A head in memory. -/
def isH (w : World) (v : Value) (h : Hd) : Prop := ∃ v1 v2, v = hv h.fin h.kind h.size v1 v2 ∧ lst w v1 h.lits ∧ lst w v2 h.dists
theorem isH.below {w w' : World} {v : Value} {h : Hd} (k : isH w v h) (b : Below w.heap.size w w') : isH w' v h := by
  obtain ⟨v1, v2, e, l1, l2⟩ := k
  exact ⟨v1, v2, e, l1.below b, l2.below b⟩
theorem isH.off {w w' : World} {S : Nat → Prop} {v : Value} {h : Hd} (k : isH w v h) (o : Only S w w') (hS : ∀ i, S i → ∃ t cs, Blk w i t cs ∧ t ≠ 3) : isH w' v h := by
  obtain ⟨v1, v2, e, l1, l2⟩ := k
  exact ⟨v1, v2, e, l1.off o hS, l2.off o hS⟩
/-- What readHead answers: what is wrong, and, if nothing is, the head, with the reader behind it. -/
def rdH (g : Nat) (s : ByteArray) (a : Nat) (w : World) (e : Ending) (w' : World) : Prop :=
  ∃ b k z A1 n1 c1 A2 n2 c2, e = .returned (.tuple #[hv b k z (.slice A1 n1 c1) (.slice A2 n2 c2), .int .i64 (headM (num s.data.toList) (8 * s.size) a).1]) ∧
    ((headM (num s.data.toList) (8 * s.size) a).1 = 0 → isH w' (hv b k z (.slice A1 n1 c1) (.slice A2 n2 c2)) (headM (num s.data.toList) (8 * s.size) a).2.1 ∧ rd w' g s (headM (num s.data.toList) (8 * s.size) a).2.2) ∧ Only (At g) w w'

/-- What readLengths answers. -/
def rdL (g : Nat) (s : ByteArray) (a : Nat) (w : World) (e : Ending) (w' : World) : Prop :=
  ∃ A1 n1 c1 A2 n2 c2, e = .returned (.tuple #[.slice A1 n1 c1, .slice A2 n2 c2, .int .i64 (dynM (num s.data.toList) (8 * s.size) a).1]) ∧
    ((dynM (num s.data.toList) (8 * s.size) a).1 = 0 → ints w' w.heap.size 3 (.slice A1 n1 c1) (ofN (dynM (num s.data.toList) (8 * s.size) a).2.1.1) ∧ ints w' w.heap.size 3 (.slice A2 n2 c2) (ofN (dynM (num s.data.toList) (8 * s.size) a).2.1.2) ∧ rd w' g s (dynM (num s.data.toList) (8 * s.size) a).2.2) ∧ Only (At g) w w'
/-- The zero head's cells. -/
abbrev z5 : Array Value := #[.bool false, .int .i64 0, .int .i64 0, .slice none 0 0, .slice none 0 0]
theorem one5 (b : Bool) (k z : Int) (A1 : Option Addr) (n1 c1 : Nat) (A2 : Option Addr) (n2 c2 : Nat) : (#[.bool b, .int .i64 k, .int .i64 z, .slice A1 n1 c1, .slice A2 n2 c2] : Array Value).all (·.oneCell') = true := by simp [Value.oneCell']
theorem sizeH : (Tryd.prog.info? 33).map (·.size) = some 5 := by kernel_rfl
theorem results_cell2 {P : Program} {fn : Func} {p u : Tmp} {ty : TypeId} (h : fn.results = #[.cell p ty, .tmp u]) (tmps : Array Value) (w : World) (g : Nat) (t : TypeId) (cs : Array Value) (d : TypeDesc) (x : Value)
    (hp : tmps.getD p undef = .pointer (some ⟨g, 0, none⟩)) (hx : tmps.getD u undef = x) (hg : Blk w g t cs) (hu : P.underlying ty = some d) (hd : (match d with | .struct _ | .array _ _ => true | _ => false) = true) (hi : (P.info? ty).map (·.size) = some cs.size) :
    (results fn tmps).run P w = .ok (.tuple #[.agg cs, x]) w := by
  rw [results_cell_tmp h, hp, hx]
  simp [asAddr, run_loadVar_row w g t ty cs (0, 0) d hg hu hd hi]

theorem only_row {S : Nat → Prop} {a b : World} (h : Only S a b) {g : Nat} (hg : S g) (cs : Array Value) : Only S a (b.setRow g cs) :=
  ⟨h.os, h.tape, h.output, by rw [setRow_size]; exact h.size, fun k hk hS => (setRow_other b g k cs (fun e => hS (by rw [e]; exact hg))).trans (h.block k hk hS)⟩
/-- Two blocks of heads alone. -/
def two (H R : Nat) (k : Nat) : Prop := k = H ∨ k = R
theorem only_two {H R : Nat} (w : World) (u v : Value) (cs : Array Value) (i j : Nat) : Only (two H R) w (((w.setCell ⟨H, i, none⟩ u).setCell ⟨H, j, none⟩ v).setRow R cs) :=
  only_row (((Only.refl _ w).store (p := ⟨H, i, none⟩) (.inl (.inl rfl)) _).store (p := ⟨H, j, none⟩) (.inl (.inl rfl)) _) (.inr rfl) cs
theorem only_setRow {S : Nat → Prop} {a b : World} (h : Only S a b) {g : Nat} (hg : a.heap.size ≤ g) (cs : Array Value) : Only S a (b.setRow g cs) :=
  ⟨h.os, h.tape, h.output, by rw [setRow_size]; exact h.size, fun k hk hS => (setRow_other b g k cs (by omega)).trans (h.block k hk hS)⟩

section
variable {w : World} {g : Nat} {s : ByteArray} {a : Nat}
set_option maxRecDepth 100000 in
theorem head_short' (h : rd w g s a) (hs : s.size ≤ 281474976710656) (ha : a ≤ 8 * s.size) (hl : 8 * s.size - a < 3) : Calls Tryd.prog 34 #[.pointer (some ⟨g, 0, none⟩)] w (rdH g s a w) := by
  have HS := Lib.hid (head_short (N := num s.data.toList) hl)
  have h1 := h.below (below_alloc w (.cells #[.bool false, .int .i64 0, .int .i64 0, .slice none 0 0, .slice none 0 0] 33))
  go_enter Tryd.func34, Tryd.ntmps34
  go_wp2_with fail
  refine (Bits_short (m := 3) rfl (by omega) h1 hs ha hl).mono ?_
  rintro e w2 ⟨rfl, r2, o2⟩
  have hg := h.lt
  have HR : Hid (Blk w2 w.heap.size 33 z5) := Lib.hid (Blk.only (Blk.fresh w _ _) o2 (fun e => by have : w.heap.size = g := e; omega))
  go_wp2_with (refine wpList_store_row rfl 33 _ _ rfl w.heap.size z5 rfl rfl _ _ HR.out sizeH rfl (one5 _ _ _ _ _ _ _ _ _) ?_)
  refine bodyPost_ret (v := .tuple #[.agg z5, .int .i64 2]) (results_cell2 rfl _ _ w.heap.size 33 z5 _ _ rfl rfl (setRow_heap _ _ _ _ _ _ HR.out) Tryd.underlying33 rfl sizeH) rfl ?_
  have HO : Only (At g) w w2 := Only.then (Only.of_below (below_alloc w _)) o2 (fun i hi _ => hi)
  refine ⟨false, 0, 0, none, 0, 0, none, 0, 0, by rw [HS.out], fun e => (by rw [HS.out] at e; cases e), ?_⟩
  exact only_setRow HO (Nat.le_refl _) _

set_option maxRecDepth 100000 in
theorem head_fix' (h : rd w g s a) (hs : s.size ≤ 281474976710656) (ha : a ≤ 8 * s.size) (hl : ¬ 8 * s.size - a < 3) (hk : peekN (num s.data.toList) (a + 1) 2 = 1) : Calls Tryd.prog 34 #[.pointer (some ⟨g, 0, none⟩)] w (rdH g s a w) := by
  have HS := Lib.hid (head_fix (N := num s.data.toList) hl hk)
  have h1 := h.below (below_alloc w (.cells #[.bool false, .int .i64 0, .int .i64 0, .slice none 0 0, .slice none 0 0] 33))
  obtain ⟨v, hv⟩ : ∃ v, v = peekN (num s.data.toList) a 3 := ⟨_, rfl⟩
  have hp := peekN_add (num s.data.toList) a 1 2
  have hp1 := peekN_lt (num s.data.toList) a 1
  rw [show 1 + 2 = 3 from rfl, ← hv, hk] at hp
  obtain ⟨fb, hfb⟩ : ∃ fb : Bool, fb = decide (peekN (num s.data.toList) a 1 = 1) := ⟨_, rfl⟩
  have e1 : ((v : Int) % 2 == 1) = fb := by rw [hfb, Bool.eq_iff_iff]; simp; omega
  have e2 : (v : Int) / 2 = 1 := by omega
  have HV := Lib.hid hv
  have HF := Lib.hid hfb
  clear hv hfb hp hp1 hk
  go_enter Tryd.func34, Tryd.ntmps34
  go_wp2_with fail
  refine (Bits_has (m := 3) rfl (by omega) h1 hs (by omega)).mono ?_
  rintro e w2 ⟨rfl, r2, o2⟩
  rw [← HV.out]
  have hg := h.lt
  obtain ⟨w3, hw3⟩ : ∃ w3, w3 = w2.alloc (.cells #[.bool fb, .int .i64 1, .int .i64 0, .slice none 0 0, .slice none 0 0] 33) := ⟨_, rfl⟩
  have HR : Hid (Blk w3 w.heap.size 33 z5) := Lib.hid (by rw [hw3]; exact (Blk.only (Blk.fresh w _ _) o2 (fun e => by have : w.heap.size = g := e; omega)).below (below_alloc _ _))
  have HH : Hid (Blk w3 w2.heap.size 33 #[.bool fb, .int .i64 1, .int .i64 0, .slice none 0 0, .slice none 0 0]) := Lib.hid (by rw [hw3]; exact Blk.fresh _ _ _)
  have HG : Hid (rd w3 g s (a + 3)) := Lib.hid (by rw [hw3]; exact r2.below (below_alloc _ _))
  have hs2 : w.heap.size + 1 ≤ w2.heap.size := by have := o2.size; rw [size_alloc] at this; exact this
  have HO : Hid (Only (At g) w w3) := Lib.hid (by rw [hw3]; exact (Only.then (Only.of_below (below_alloc w _)) o2 (fun i hi _ => hi)).alloc _)
  obtain ⟨H, hH⟩ : ∃ H, H = w2.heap.size := ⟨_, rfl⟩
  go_wp2_with fail
  rw [← hw3]
  rw [← hH] at HH
  refine (FixedLits_any w3).mono ?_
  rintro e w4 ⟨v1, rfl, k4, b4⟩
  have K4 := Lib.hid k4; have B4 := Lib.hid b4; clear k4 b4
  obtain ⟨A1, c1, hv1⟩ := K4.out.form
  rw [ofN_length, fixL_length] at hv1
  subst hv1
  go_wp2_with fail
  refine (FixedDists_any w4).mono ?_
  rintro e w5 ⟨v2, rfl, k5, b5⟩
  have K5 := Lib.hid k5; have B5 := Lib.hid b5; clear k5 b5
  obtain ⟨A2, c2, hv2⟩ := K5.out.form
  rw [ofN_length, fixD_length] at hv2
  subst hv2
  rw [← hH]
  have HH5 := Lib.hid ((HH.out.below B4.out).below B5.out)
  have HR5 := Lib.hid ((HR.out.below B4.out).below B5.out)
  have c3 := HH5.out.cell 3
  have c4 := HH5.out.cell 4
  have f3 := HH5.out.frozen 3
  have f4 := HH5.out.frozen 4
  have HL : Hid (Blk ((w5.setCell ⟨H, 3, none⟩ (.slice A1 288 c1)).setCell ⟨H, 4, none⟩ (.slice A2 32 c2)) H 33 #[.bool fb, .int .i64 1, .int .i64 0, .slice A1 288 c1, .slice A2 32 c2]) := Lib.hid ((HH5.out.store 3 _).store 4 _)
  have HR6 : Hid (Blk ((w5.setCell ⟨H, 3, none⟩ (.slice A1 288 c1)).setCell ⟨H, 4, none⟩ (.slice A2 32 c2)) w.heap.size 33 z5) := Lib.hid ((HR5.out.apartStore (by simp; omega)).apartStore (by simp; omega))
  have hHH := Lib.hid hH
  clear hH hw3
  go_wp2_with (first | (refine wpList_load_row rfl 33 _ rfl H rfl _ _ _ _ HL.out Tryd.underlying33 rfl sizeH ?_) | (refine wpList_store_row rfl 33 _ _ rfl w.heap.size #[.bool fb, .int .i64 1, .int .i64 0, .slice A1 288 c1, .slice A2 32 c2] rfl rfl _ _ HR6.out sizeH rfl (one5 _ _ _ _ _ _ _ _ _) ?_))
  refine bodyPost_ret (v := .tuple #[.agg #[.bool fb, .int .i64 1, .int .i64 0, .slice A1 288 c1, .slice A2 32 c2], .int .i64 0]) (results_cell2 rfl _ _ w.heap.size 33 _ _ _ rfl rfl (setRow_heap _ _ _ _ _ _ HR6.out) Tryd.underlying33 rfl sizeH) rfl ?_
  have O6 := only_two (H := H) (R := w.heap.size) w5 (.slice A1 288 c1) (.slice A2 32 c2) #[.bool fb, .int .i64 1, .int .i64 0, .slice A1 288 c1, .slice A2 32 c2] 3 4
  have hH' := hHH.out
  have h3s := HH.out.lt
  have hn : ∀ i, w3.heap.size ≤ i → ¬ two H w.heap.size i := fun i hi => by rintro (e | e) <;> omega
  have hgn : ¬ two H w.heap.size g := by rintro (e | e) <;> omega
  have L4 := K4.out.below B5.out
  refine ⟨fb, 1, 0, A1, 288, c1, A2, 32, c2, by rw [HS.out], fun _ => ?_, ?_⟩
  · rw [HS.out]
    refine ⟨⟨_, _, by rw [HF.out]; rfl, lst_of (L4.only O6 (fun i hi => hn i (L4.lo i hi).1)), lst_of (K5.out.only O6 (fun i hi => hn i (Nat.le_trans B4.out.size (K5.out.lo i hi).1)))⟩, ?_⟩
    exact ((HG.out.below B4.out).below B5.out).only O6 hgn
  · exact Only.then (Only.then (Only.then HO.out (Only.of_below B4.out) (fun i hi _ => hi)) (Only.of_below B5.out) (fun i hi _ => hi)) O6 (fun i hi hlt => by rcases hi with e | e <;> omega)

set_option maxRecDepth 100000 in
theorem head_sto' (h : rd w g s a) (hs : s.size ≤ 281474976710656) (ha : a ≤ 8 * s.size) (hl : ¬ 8 * s.size - a < 3) (hk : peekN (num s.data.toList) (a + 1) 2 = 0) : Calls Tryd.prog 34 #[.pointer (some ⟨g, 0, none⟩)] w (rdH g s a w) := by
  have HS := Lib.hid (show (headM (num s.data.toList) (8 * s.size) a).1 = (stoM (num s.data.toList) (8 * s.size) (a + 3)).1 ∧ ((stoM (num s.data.toList) (8 * s.size) (a + 3)).1 = 0 → headM (num s.data.toList) (8 * s.size) a = (0, ⟨decide (peekN (num s.data.toList) a 1 = 1), 0, (stoM (num s.data.toList) (8 * s.size) (a + 3)).2.1, [], []⟩, (stoM (num s.data.toList) (8 * s.size) (a + 3)).2.2)) from ⟨by
    by_cases e : (stoM (num s.data.toList) (8 * s.size) (a + 3)).1 = 0
    · rw [head_sto hl hk e, e]
    · rw [head_sto_no hl hk e], fun e => head_sto hl hk e⟩)
  have h1 := h.below (below_alloc w (.cells #[.bool false, .int .i64 0, .int .i64 0, .slice none 0 0, .slice none 0 0] 33))
  obtain ⟨v, hv⟩ : ∃ v, v = peekN (num s.data.toList) a 3 := ⟨_, rfl⟩
  have hp := peekN_add (num s.data.toList) a 1 2
  have hp1 := peekN_lt (num s.data.toList) a 1
  rw [show 1 + 2 = 3 from rfl, ← hv, hk] at hp
  obtain ⟨fb, hfb⟩ : ∃ fb : Bool, fb = decide (peekN (num s.data.toList) a 1 = 1) := ⟨_, rfl⟩
  have e1 : ((v : Int) % 2 == 1) = fb := by rw [hfb, Bool.eq_iff_iff]; simp; omega
  have e2 : (v : Int) / 2 = 0 := by omega
  have HV := Lib.hid hv
  have HF := Lib.hid hfb
  clear hv hfb hp hp1 hk
  go_enter Tryd.func34, Tryd.ntmps34
  go_wp2_with fail
  refine (Bits_has (m := 3) rfl (by omega) h1 hs (by omega)).mono ?_
  rintro e w2 ⟨rfl, r2, o2⟩
  rw [← HV.out]
  have hg := h.lt
  obtain ⟨w3, hw3⟩ : ∃ w3, w3 = w2.alloc (.cells #[.bool fb, .int .i64 0, .int .i64 0, .slice none 0 0, .slice none 0 0] 33) := ⟨_, rfl⟩
  have HR : Hid (Blk w3 w.heap.size 33 z5) := Lib.hid (by rw [hw3]; exact (Blk.only (Blk.fresh w _ _) o2 (fun e => by have : w.heap.size = g := e; omega)).below (below_alloc _ _))
  have HH : Hid (Blk w3 w2.heap.size 33 #[.bool fb, .int .i64 0, .int .i64 0, .slice none 0 0, .slice none 0 0]) := Lib.hid (by rw [hw3]; exact Blk.fresh _ _ _)
  have HG : Hid (rd w3 g s (a + 3)) := Lib.hid (by rw [hw3]; exact r2.below (below_alloc _ _))
  have hs2 : w.heap.size + 1 ≤ w2.heap.size := by have := o2.size; rw [size_alloc] at this; exact this
  have HO : Hid (Only (At g) w w3) := Lib.hid (by rw [hw3]; exact (Only.then (Only.of_below (below_alloc w _)) o2 (fun i hi _ => hi)).alloc _)
  obtain ⟨H, hH⟩ : ∃ H, H = w2.heap.size := ⟨_, rfl⟩
  go_wp2_with fail
  rw [← hw3]
  rw [← hH] at HH
  refine (readSize_any HG.out hs (by omega)).mono ?_
  rintro e w4 ⟨rfl, k4, b4⟩
  have K4 := Lib.hid k4; have B4 := Lib.hid b4; clear k4 b4
  obtain ⟨z, hz⟩ : ∃ z, z = (stoM (num s.data.toList) (8 * s.size) (a + 3)).2.1 := ⟨_, rfl⟩
  obtain ⟨er, her⟩ : ∃ er, er = (stoM (num s.data.toList) (8 * s.size) (a + 3)).1 := ⟨_, rfl⟩
  rw [← hz, ← her]
  have HZ := Lib.hid hz
  have HER := Lib.hid her
  rw [← hH]
  have h3s := HH.out.lt
  have HH5 : Hid (Blk w4 H 33 #[.bool fb, .int .i64 0, .int .i64 0, .slice none 0 0, .slice none 0 0]) := Lib.hid (HH.out.only B4.out (fun e => by have : H = g := e; omega))
  have HR5 : Hid (Blk w4 w.heap.size 33 z5) := Lib.hid (HR.out.only B4.out (fun e => by have : w.heap.size = g := e; omega))
  have c2 := HH5.out.cell 2
  have f2 := HH5.out.frozen 2
  have HL : Hid (Blk (w4.setCell ⟨H, 2, none⟩ (.int .i64 (z : Int))) H 33 #[.bool fb, .int .i64 0, .int .i64 (z : Int), .slice none 0 0, .slice none 0 0]) := Lib.hid (HH5.out.store 2 _)
  have HR6 : Hid (Blk (w4.setCell ⟨H, 2, none⟩ (.int .i64 (z : Int))) w.heap.size 33 z5) := Lib.hid (HR5.out.apartStore (by simp; omega))
  have hHH := Lib.hid hH
  clear hH hw3 her hz
  go_wp2_with (first | (refine wpList_load_row rfl 33 _ rfl H rfl _ _ _ _ HL.out Tryd.underlying33 rfl sizeH ?_) | (refine wpList_store_row rfl 33 _ _ rfl w.heap.size #[.bool fb, .int .i64 0, .int .i64 (z : Int), .slice none 0 0, .slice none 0 0] rfl rfl _ _ HR6.out sizeH rfl (one5 _ _ _ _ _ _ _ _ _) ?_))
  refine bodyPost_ret (v := .tuple #[.agg #[.bool fb, .int .i64 0, .int .i64 (z : Int), .slice none 0 0, .slice none 0 0], .int .i64 er]) (results_cell2 rfl _ _ w.heap.size 33 _ _ _ rfl rfl (setRow_heap _ _ _ _ _ _ HR6.out) Tryd.underlying33 rfl sizeH) rfl ?_
  have O6 : Only (two H w.heap.size) w4 ((w4.setCell ⟨H, 2, none⟩ (.int .i64 (z : Int))).setRow w.heap.size #[.bool fb, .int .i64 0, .int .i64 (z : Int), .slice none 0 0, .slice none 0 0]) := only_row ((Only.refl _ w4).store (p := ⟨H, 2, none⟩) (.inl (.inl rfl)) _) (.inr rfl) _
  have hH' := hHH.out
  have hgn : ¬ two H w.heap.size g := by rintro (e | e) <;> omega
  refine ⟨fb, 0, z, none, 0, 0, none, 0, 0, by rw [HS.out.1, HER.out], fun e0 => ?_, ?_⟩
  · rw [HS.out.1] at e0
    rw [HS.out.2 e0]
    refine ⟨⟨_, _, by rw [← HZ.out, HF.out]; rfl, lst_nil _, lst_nil _⟩, ?_⟩
    exact (K4.out e0).only O6 hgn
  · exact Only.then (Only.then HO.out B4.out (fun i hi _ => hi)) O6 (fun i hi hlt => by rcases hi with e | e <;> omega)

set_option maxRecDepth 100000 in
theorem head_no' (h : rd w g s a) (hs : s.size ≤ 281474976710656) (ha : a ≤ 8 * s.size) (hl : ¬ 8 * s.size - a < 3) (hk : peekN (num s.data.toList) (a + 1) 2 = 3) : Calls Tryd.prog 34 #[.pointer (some ⟨g, 0, none⟩)] w (rdH g s a w) := by
  have HS := Lib.hid (head_no (N := num s.data.toList) hl hk)
  have h1 := h.below (below_alloc w (.cells #[.bool false, .int .i64 0, .int .i64 0, .slice none 0 0, .slice none 0 0] 33))
  obtain ⟨v, hv⟩ : ∃ v, v = peekN (num s.data.toList) a 3 := ⟨_, rfl⟩
  have hp := peekN_add (num s.data.toList) a 1 2
  have hp1 := peekN_lt (num s.data.toList) a 1
  rw [show 1 + 2 = 3 from rfl, ← hv, hk] at hp
  obtain ⟨fb, hfb⟩ : ∃ fb : Bool, fb = decide (peekN (num s.data.toList) a 1 = 1) := ⟨_, rfl⟩
  have e1 : ((v : Int) % 2 == 1) = fb := by rw [hfb, Bool.eq_iff_iff]; simp; omega
  have e2 : (v : Int) / 2 = 3 := by omega
  have HV := Lib.hid hv
  have HF := Lib.hid hfb
  clear hv hfb hp hp1 hk
  go_enter Tryd.func34, Tryd.ntmps34
  go_wp2_with fail
  refine (Bits_has (m := 3) rfl (by omega) h1 hs (by omega)).mono ?_
  rintro e w2 ⟨rfl, r2, o2⟩
  rw [← HV.out]
  have hg := h.lt
  obtain ⟨w3, hw3⟩ : ∃ w3, w3 = w2.alloc (.cells #[.bool fb, .int .i64 3, .int .i64 0, .slice none 0 0, .slice none 0 0] 33) := ⟨_, rfl⟩
  have HR : Hid (Blk w3 w.heap.size 33 z5) := Lib.hid (by rw [hw3]; exact (Blk.only (Blk.fresh w _ _) o2 (fun e => by have : w.heap.size = g := e; omega)).below (below_alloc _ _))
  have HH : Hid (Blk w3 w2.heap.size 33 #[.bool fb, .int .i64 3, .int .i64 0, .slice none 0 0, .slice none 0 0]) := Lib.hid (by rw [hw3]; exact Blk.fresh _ _ _)
  have HG : Hid (rd w3 g s (a + 3)) := Lib.hid (by rw [hw3]; exact r2.below (below_alloc _ _))
  have hs2 : w.heap.size + 1 ≤ w2.heap.size := by have := o2.size; rw [size_alloc] at this; exact this
  have HO : Hid (Only (At g) w w3) := Lib.hid (by rw [hw3]; exact (Only.then (Only.of_below (below_alloc w _)) o2 (fun i hi _ => hi)).alloc _)
  obtain ⟨H, hH⟩ : ∃ H, H = w2.heap.size := ⟨_, rfl⟩
  clear hH
  subst hw3
  go_wp2_with (refine wpList_store_row rfl 33 _ _ rfl w.heap.size #[.bool fb, .int .i64 3, .int .i64 0, .slice none 0 0, .slice none 0 0] rfl rfl _ _ HR.out sizeH rfl (one5 _ _ _ _ _ _ _ _ _) ?_)
  refine bodyPost_ret (v := .tuple #[.agg #[.bool fb, .int .i64 3, .int .i64 0, .slice none 0 0, .slice none 0 0], .int .i64 11]) (results_cell2 rfl _ _ w.heap.size 33 _ _ _ rfl rfl (setRow_heap _ _ _ _ _ _ HR.out) Tryd.underlying33 rfl sizeH) rfl ?_
  refine ⟨fb, 3, 0, none, 0, 0, none, 0, 0, by rw [HS.out], fun e => (by rw [HS.out] at e; cases e), ?_⟩
  exact only_setRow HO.out (Nat.le_refl _) _

set_option maxRecDepth 100000 in
theorem head_dyn' (h : rd w g s a) (hs : s.size ≤ 281474976710656) (ha : a ≤ 8 * s.size) (hl : ¬ 8 * s.size - a < 3) (hk : peekN (num s.data.toList) (a + 1) 2 = 2) (HD : Hid (∀ u, rd u g s (a + 3) → Calls Tryd.prog 55 #[.pointer (some ⟨g, 0, none⟩)] u (rdL g s (a + 3) u))) : Calls Tryd.prog 34 #[.pointer (some ⟨g, 0, none⟩)] w (rdH g s a w) := by
  have HS := Lib.hid (show (headM (num s.data.toList) (8 * s.size) a).1 = (dynM (num s.data.toList) (8 * s.size) (a + 3)).1 ∧ ((dynM (num s.data.toList) (8 * s.size) (a + 3)).1 = 0 → headM (num s.data.toList) (8 * s.size) a = (0, ⟨decide (peekN (num s.data.toList) a 1 = 1), 2, 0, (dynM (num s.data.toList) (8 * s.size) (a + 3)).2.1.1, (dynM (num s.data.toList) (8 * s.size) (a + 3)).2.1.2⟩, (dynM (num s.data.toList) (8 * s.size) (a + 3)).2.2)) from ⟨by
    by_cases e : (dynM (num s.data.toList) (8 * s.size) (a + 3)).1 = 0
    · rw [head_dyn hl hk e, e]
    · rw [head_dyn_no hl hk e], fun e => head_dyn hl hk e⟩)
  have h1 := h.below (below_alloc w (.cells #[.bool false, .int .i64 0, .int .i64 0, .slice none 0 0, .slice none 0 0] 33))
  obtain ⟨v, hv⟩ : ∃ v, v = peekN (num s.data.toList) a 3 := ⟨_, rfl⟩
  have hp := peekN_add (num s.data.toList) a 1 2
  have hp1 := peekN_lt (num s.data.toList) a 1
  rw [show 1 + 2 = 3 from rfl, ← hv, hk] at hp
  obtain ⟨fb, hfb⟩ : ∃ fb : Bool, fb = decide (peekN (num s.data.toList) a 1 = 1) := ⟨_, rfl⟩
  have e1 : ((v : Int) % 2 == 1) = fb := by rw [hfb, Bool.eq_iff_iff]; simp; omega
  have e2 : (v : Int) / 2 = 2 := by omega
  have HV := Lib.hid hv
  have HF := Lib.hid hfb
  clear hv hfb hp hp1 hk
  go_enter Tryd.func34, Tryd.ntmps34
  go_wp2_with fail
  refine (Bits_has (m := 3) rfl (by omega) h1 hs (by omega)).mono ?_
  rintro e w2 ⟨rfl, r2, o2⟩
  rw [← HV.out]
  have hg := h.lt
  obtain ⟨w3, hw3⟩ : ∃ w3, w3 = w2.alloc (.cells #[.bool fb, .int .i64 2, .int .i64 0, .slice none 0 0, .slice none 0 0] 33) := ⟨_, rfl⟩
  have HR : Hid (Blk w3 w.heap.size 33 z5) := Lib.hid (by rw [hw3]; exact (Blk.only (Blk.fresh w _ _) o2 (fun e => by have : w.heap.size = g := e; omega)).below (below_alloc _ _))
  have HH : Hid (Blk w3 w2.heap.size 33 #[.bool fb, .int .i64 2, .int .i64 0, .slice none 0 0, .slice none 0 0]) := Lib.hid (by rw [hw3]; exact Blk.fresh _ _ _)
  have HG : Hid (rd w3 g s (a + 3)) := Lib.hid (by rw [hw3]; exact r2.below (below_alloc _ _))
  have hs2 : w.heap.size + 1 ≤ w2.heap.size := by have := o2.size; rw [size_alloc] at this; exact this
  have HO : Hid (Only (At g) w w3) := Lib.hid (by rw [hw3]; exact (Only.then (Only.of_below (below_alloc w _)) o2 (fun i hi _ => hi)).alloc _)
  obtain ⟨H, hH⟩ : ∃ H, H = w2.heap.size := ⟨_, rfl⟩
  go_wp2_with fail
  rw [← hw3]
  rw [← hH] at HH
  refine (HD.out w3 HG.out).mono ?_
  rintro e w4 ⟨A1, n1, c1, A2, n2, c2, rfl, k4, b4⟩
  have K4 := Lib.hid k4; have B4 := Lib.hid b4; clear k4 b4
  obtain ⟨er, her⟩ : ∃ er, er = (dynM (num s.data.toList) (8 * s.size) (a + 3)).1 := ⟨_, rfl⟩
  rw [← her]
  have HER := Lib.hid her
  rw [← hH]
  have h3s := HH.out.lt
  have HH5 : Hid (Blk w4 H 33 #[.bool fb, .int .i64 2, .int .i64 0, .slice none 0 0, .slice none 0 0]) := Lib.hid (HH.out.only B4.out (fun e => by have : H = g := e; omega))
  have HR5 : Hid (Blk w4 w.heap.size 33 z5) := Lib.hid (HR.out.only B4.out (fun e => by have : w.heap.size = g := e; omega))
  have d3 := HH5.out.cell 3
  have d4 := HH5.out.cell 4
  have f3 := HH5.out.frozen 3
  have f4 := HH5.out.frozen 4
  have HL : Hid (Blk ((w4.setCell ⟨H, 3, none⟩ (.slice A1 n1 c1)).setCell ⟨H, 4, none⟩ (.slice A2 n2 c2)) H 33 #[.bool fb, .int .i64 2, .int .i64 0, .slice A1 n1 c1, .slice A2 n2 c2]) := Lib.hid ((HH5.out.store 3 _).store 4 _)
  have HR6 : Hid (Blk ((w4.setCell ⟨H, 3, none⟩ (.slice A1 n1 c1)).setCell ⟨H, 4, none⟩ (.slice A2 n2 c2)) w.heap.size 33 z5) := Lib.hid ((HR5.out.apartStore (by simp; omega)).apartStore (by simp; omega))
  have hHH := Lib.hid hH
  clear hH hw3 her
  go_wp2_with (first | (refine wpList_load_row rfl 33 _ rfl H rfl _ _ _ _ HL.out Tryd.underlying33 rfl sizeH ?_) | (refine wpList_store_row rfl 33 _ _ rfl w.heap.size #[.bool fb, .int .i64 2, .int .i64 0, .slice A1 n1 c1, .slice A2 n2 c2] rfl rfl _ _ HR6.out sizeH rfl (one5 _ _ _ _ _ _ _ _ _) ?_))
  refine bodyPost_ret (v := .tuple #[.agg #[.bool fb, .int .i64 2, .int .i64 0, .slice A1 n1 c1, .slice A2 n2 c2], .int .i64 er]) (results_cell2 rfl _ _ w.heap.size 33 _ _ _ rfl rfl (setRow_heap _ _ _ _ _ _ HR6.out) Tryd.underlying33 rfl sizeH) rfl ?_
  have O6 := only_two (H := H) (R := w.heap.size) w4 (.slice A1 n1 c1) (.slice A2 n2 c2) #[.bool fb, .int .i64 2, .int .i64 0, .slice A1 n1 c1, .slice A2 n2 c2] 3 4
  have hH' := hHH.out
  have hgn : ¬ two H w.heap.size g := by rintro (e | e) <;> omega
  have hn : ∀ i, w3.heap.size ≤ i → ¬ two H w.heap.size i := fun i hi => by rintro (e | e) <;> omega
  refine ⟨fb, 2, 0, A1, n1, c1, A2, n2, c2, by rw [HS.out.1, HER.out], fun e0 => ?_, ?_⟩
  · rw [HS.out.1] at e0
    rw [HS.out.2 e0]
    obtain ⟨l1, l2, r4⟩ := K4.out e0
    refine ⟨⟨_, _, by rw [HF.out]; rfl, lst_of (l1.only O6 (fun i hi => hn i (l1.lo i hi).1)), lst_of (l2.only O6 (fun i hi => hn i (l2.lo i hi).1))⟩, ?_⟩
    exact r4.only O6 hgn
  · exact Only.then (Only.then HO.out B4.out (fun i hi _ => hi)) O6 (fun i hi hlt => by rcases hi with e | e <;> omega)
end
end Go.Proofs.YtgbdecnaamlekaaDoor.Ke
