/-
  behind, called with a table that New is making: the second table of the codes that begin so.
  add, called with a table that New is making: the table with one symbol more.
  Conditions: as each theorem says.
-/
import Derived.Test.YtnkninjdpgpkmaaGreatDoorBbf
import Derived.Test.YtnkninjdpgpkmaaGreatDoorBbb
import Derived.Laws.MakeOwn
import Derived.Maps.AppendAt
import Derived.Deep.AppendLies
import Derived.Deep.RegionLaw
import Derived.Test.YtnkninjdpgpkmaaGreatDoorBar
import Derived.Deep.RegionHeld3
namespace Go.Proofs.YtnkninjdpgpkmaaGreatDoor.Pe
open Go.RowKit Go.Proofs.YtnkninjdpgpkmaaGreatDoor.Vm Go.Proofs.YtnkninjdpgpkmaaGreatDoor.Bm Go.Proofs.YtnkninjdpgpkmaaGreatDoor.Bw Go.Proofs.YtnkninjdpgpkmaaGreatDoor.Br Go.Proofs.YtnkninjdpgpkmaaGreatDoor.Bs Go.Proofs.YtnkninjdpgpkmaaGreatDoor.Na Go.Proofs.YtnkninjdpgpkmaaGreatDoor.Ne Go.Proofs.YtnkninjdpgpkmaaGreatDoor.Pt Go.Proofs.YtnkninjdpgpkmaaGreatDoor.Pc Go.Proofs.YtnkninjdpgpkmaaGreatDoor.Pd

set_option maxRecDepth 100000 in
theorem behind_old {base : Nat} {w : World} {g n : Nat} {F : Nat → Nat × Nat} {v : Value} {bs : List Nat} {G : Nat → Nat → Nat × Nat} (h : tb base w g n F v bs G) {p : Nat} (hp : p < 512) (h16 : (F p).1 = 16) (hl : (F p).2 < bs.length) :
    Calls Tryz.prog 157 #[.pointer (some ⟨g, 0, none⟩), .int .i64 p] w fun e w' => e = .returned (sl (bs.getD (F p).2 0)) ∧ ∃ m, w' = w.drewN m := by
  have ca := h.ca hp
  have cb := h.cb hp
  have cl := h.cl
  obtain ⟨r, cap, rfl, cr⟩ := h.row hl
  obtain ⟨i, hie⟩ : ∃ i, i = (F p).2 := ⟨_, rfl⟩
  rw [h16] at ca
  rw [← hie] at cb cr hl ⊢
  obtain ⟨B, hB⟩ : ∃ B, B = bs.getD i 0 := ⟨_, rfl⟩
  rw [← hB] at cr ⊢
  obtain ⟨m, hm⟩ : ∃ m, m = bs.length := ⟨_, rfl⟩
  rw [← hm] at hl cl
  unfold sl at cr ⊢
  clear h16 hie hB h hm
  go_enter Tryz.func157, Tryz.ntmps157
  go_wp2
  go_quiet (fail)
  go_wp2
  go_ret
  exact ⟨rfl, _, rfl⟩

theorem infoC : (Tryz.prog.info? 186).map (fun i => (i.zero, i.size, i.bytes)) = some (some (.agg #[.int .u16 0, .int .u16 0]), 2, 4) := by kernel_rfl
theorem infoS : (Tryz.prog.info? 214).map (fun i => (i.zero, i.size, i.bytes)) = some (some (.slice none 0 0), 1, 24) := by kernel_rfl
theorem madeC (u : World) : (Instr.makeSlice 214 (.int .i64 64) (.int .i64 64)).run Tryz.prog u = .ok (.slice (some ⟨u.heap.size, 0, none⟩) 64 64) (u.alloc (.cells (scells (fun _ => (0, 0))) 186)) := by
  obtain ⟨i0, hi, hz0, hz1, hz2⟩ := info_parts infoC
  have h := run_make (P := Tryz.prog) u 214 186 i0 (.agg #[.int .u16 0, .int .u16 0]) Tryz.underlying214 hi hz0 .i64 .i64 64 64 (by omega) (by omega) (by rw [hz2]; omega) (by omega)
  have e : madeCells (Value.agg #[.int .u16 0, .int .u16 0]).cells (64 * i0.size) = scells (fun _ => (0, 0)) := by
    rw [hz1]
    apply Array.ext
    · simp [madeCells, scells, cellsN]
    · intro j h1 h2
      rcases Nat.mod_two_eq_zero_or_one j with h | h <;> simp [madeCells, scells, cellsN, Value.cells, pr, h]
  have e2 : (64 : Int).toNat = 64 := rfl
  rw [e2, e] at h
  exact h

/-- A cell of the first table is stored. -/
theorem tb_put {base : Nat} {w : World} {g n : Nat} {F : Nat → Nat × Nat} {v : Value} {bs : List Nat} {G : Nat → Nat → Nat × Nat} (h : tb base w g n F v bs G) {p : Nat} (hp : p < 512) (a b : Nat) :
    tb base ((w.setCell ⟨g, 2 + p * 2, none⟩ (.int .u16 a)).setCell ⟨g, 2 + p * 2 + 1, none⟩ (.int .u16 b)) g n (fun q => if q = p then (a, b) else F q) v bs G := by
  refine h.first (((Only.refl _ _).store (p := ⟨g, _, none⟩) (.inl (At.self g)) _).store (p := ⟨g, _, none⟩) (.inl (At.self g)) _) ?_
  have k := (h.b.store (2 + p * 2) (.int .u16 a)).store (2 + p * 2 + 1) (.int .u16 b)
  have e := (pairs_t (.pointer (some ⟨g, 0, none⟩)) n v).set F p a b hp
  rw [e] at k
  exact k
/-- What behind changes. -/
def tk (g : Nat) (v : Value) (k : Nat) : Prop := k = g ∨ v.ownBlock = some k
/-- A second table is appended. -/
theorem tb_more {base : Nat} {w w1 : World} {g n m cap gg cap1 : Nat} {A : Option Addr} {F : Nat → Nat × Nat} {bs : List Nat} {G : Nat → Nat → Nat × Nat} (h : tb base w g n F (.slice A m cap) bs G) (hm : m = bs.length) (hb : base ≤ w.heap.size)
    (hown : w1.ownsRow base 214 1 (.slice (some ⟨gg, 0, none⟩) (m + 1) cap1) (m + 1) (bs.map sl ++ [sl w.heap.size]))
    (hgrow : (((w.alloc (.cells (scells (fun _ => (0, 0))) 186)).alloc (.cells #[sl w.heap.size] 214)).drew).grownBy w1 (Value.slice A m cap).ownBlock) :
    tb base (w1.setCell ⟨g, 1026, none⟩ (.slice (some ⟨gg, 0, none⟩) (m + 1) cap1)) g n F (.slice (some ⟨gg, 0, none⟩) (m + 1) cap1) (bs ++ [w.heap.size]) (linkG G m)
      ∧ Only (tk g (.slice A m cap)) w (w1.setCell ⟨g, 1026, none⟩ (.slice (some ⟨gg, 0, none⟩) (m + 1) cap1)) := by
  have o1 : Only (fun k => (Value.slice A m cap).ownBlock = some k) w w1 := ((((Only.refl _ w).alloc _).alloc _).drew).grown hgrow (fun i hi _ => hi)
  have hb1 := h.b.only o1 (fun e => own_apart h.o h.b (by decide) g e rfl)
  have hgg : gg ≠ g := own_apart hown hb1 (by decide) gg rfl
  have st : Only (At g) w1 (w1.setCell ⟨g, 1026, none⟩ (.slice (some ⟨gg, 0, none⟩) (m + 1) cap1)) := (Only.refl _ _).store (p := ⟨g, 1026, none⟩) (.inl (At.self g)) _
  have hlen : (bs ++ [w.heap.size]).length = m + 1 := by simp [hm]
  have hlt : ∀ i, i < bs.length → bs.getD i 0 < w.heap.size := fun i hi => (h.s i hi).lt
  have hge : ∀ i, i < bs.length → (bs ++ [w.heap.size]).getD i 0 = bs.getD i 0 := fun i hi => by
    simp [List.getD_eq_getElem?_getD, List.getElem?_append_left hi]
  have hlast : (bs ++ [w.heap.size]).getD bs.length 0 = w.heap.size := by simp [List.getD_eq_getElem?_getD]
  have hB : Blk w1 w.heap.size 186 (scells (fun _ => (0, 0))) := by
    have k : Blk (((w.alloc (.cells (scells (fun _ => (0, 0))) 186)).alloc (.cells #[sl w.heap.size] 214)).drew) w.heap.size 186 (scells (fun _ => (0, 0))) := (Blk.fresh w 186 _).below (below_drew (below_alloc _ _))
    refine k.only ((Only.refl (fun k => (Value.slice A m cap).ownBlock = some k) _).grown hgrow (fun i hi _ => hi)) (fun e => ?_)
    have := (h.o.lt _ e).2
    omega
  refine ⟨⟨?_, ?_, fun i hi => ?_, fun i j hi hj e => ?_, fun i hi => ?_, h.g0⟩, ?_⟩
  · have k := hb1.store 1026 (.slice (some ⟨gg, 0, none⟩) (m + 1) cap1)
    rw [t_setl] at k
    exact k
  · have k := own_only hown st (fun i hi e => hgg (by simp [Value.ownBlock] at hi; subst hi; exact e))
    rw [hlen, List.map_append]
    exact k
  · rw [hlen] at hi
    rcases (show i < bs.length ∨ i = bs.length by omega) with h1 | rfl
    · rw [hge i h1]
      have e : linkG G m i = G i := if_neg (by omega)
      rw [e]
      exact ((h.s i h1).only o1 (fun e => own_apart h.o (h.s i h1) (by decide) _ e rfl)).only st (fun e => Blk.apart h.b (h.s i h1) (by decide) e.symm)
    · rw [hlast]
      have e : linkG G m bs.length = fun _ => (0, 0) := if_pos hm.symm
      rw [e]
      exact hB.only st (fun e => by have := h.b.lt; have e' : w.heap.size = g := e; omega)
  · rw [hlen] at hi hj
    rcases (show i < bs.length ∨ i = bs.length by omega) with h1 | rfl
    · rcases (show j < bs.length ∨ j = bs.length by omega) with h2 | rfl
      · rw [hge i h1, hge j h2] at e; exact h.d i j h1 h2 e
      · rw [hge i h1, hlast] at e; have := hlt i h1; omega
    · rcases (show j < bs.length ∨ j = bs.length by omega) with h2 | rfl
      · rw [hge j h2, hlast] at e; have := hlt j h2; omega
      · rfl
  · rw [hlen] at hi
    rcases (show i < bs.length ∨ i = bs.length by omega) with h1 | rfl
    · rw [hge i h1]; exact h.lo i h1
    · rw [hlast]; exact hb
  · exact (o1.mono (fun i hi => .inr hi)).store (p := ⟨g, 1026, none⟩) (.inl (.inl rfl)) _

set_option maxRecDepth 100000 in
theorem behind_new {base : Nat} {w : World} {g n : Nat} {F : Nat → Nat × Nat} {v : Value} {bs : List Nat} {G : Nat → Nat → Nat × Nat} (h : tb base w g n F v bs G) {p : Nat} (hp : p < 512) (h16 : (F p).1 ≠ 16) (hm : bs.length ≤ 400) :
    Calls Tryz.prog 157 #[.pointer (some ⟨g, 0, none⟩), .int .i64 p] w fun e w' => ∃ B v', e = .returned (sl B) ∧ tb base w' g n (linkF F p bs.length) v' (bs ++ [B]) (linkG G bs.length) ∧ Only (tk g v) w w' ∧ w.heap.size ≤ B := by
  have ca := h.ca hp
  have cb := h.cb hp
  have cl := h.cl
  have fa := h.b.frozen (2 + p * 2)
  have fb := h.b.frozen (2 + p * 2 + 1)
  have fl := h.b.frozen 1026
  obtain ⟨c, d, hcd⟩ : ∃ c d, F p = (c, d) := ⟨_, _, rfl⟩
  have h16' : ((c : Int) != 16) = true := by rw [hcd] at h16; simp at h16 ⊢; omega
  rw [hcd] at ca cb
  obtain ⟨A, cap, hv⟩ : ∃ A cap, v = .slice A bs.length cap := by
    rcases h.o.2 with ⟨rfl, e⟩ | ⟨b, cap, _, rfl, _⟩
    · exact ⟨none, 0, by rw [e]⟩
    · exact ⟨_, cap, rfl⟩
  subst hv
  obtain ⟨m, hme⟩ : ∃ m, m = bs.length := ⟨_, rfl⟩
  rw [← hme] at cl hm ⊢
  have cl : w.cell? ⟨g, 1026, none⟩ = some (.slice A m cap) := by rw [cl, hme]
  have H := Lib.hid h
  have HM := Lib.hid hme
  clear h hcd hme h16
  go_enter Tryz.func157, Tryz.ntmps157
  go_wp2
  go_region
  go_wp2
  obtain ⟨w2, hw2⟩ : ∃ w2, w2 = ((w.setCell ⟨g, 2 + p * 2, none⟩ (.int .u16 16)).setCell ⟨g, 2 + p * 2 + 1, none⟩ (.int .u16 m)).drew := ⟨_, rfl⟩
  have H2 : Hid (tb base w2 g n (linkF F p m) (.slice A m cap) bs G) := Lib.hid (by
    have k := tb_put H.out hp 16 m
    have e : (Value.slice A bs.length cap) = .slice A m cap := by rw [HM.out]
    rw [e] at k
    rw [hw2]
    exact k.draws 1)
  have hb2 : base ≤ w2.heap.size := Nat.le_trans H2.out.g0 (Nat.le_of_lt H2.out.b.lt)
  have B2 : Hid (Only (tk g (.slice A m cap)) w w2) := Lib.hid (by
    rw [hw2]
    exact (((Only.refl _ w).store (p := ⟨g, _, none⟩) (.inl (.inl rfl)) _).store (p := ⟨g, _, none⟩) (.inl (.inl rfl)) _).drew)
  have c2 := H2.out.cl
  rw [← hw2]
  clear hw2 ca cb cl fa fb fl
  obtain ⟨Z, hZ⟩ : ∃ Z, Z = scells (fun _ => (0, 0)) := ⟨_, rfl⟩
  have hmk := madeC
  rw [← hZ] at hmk
  have HZ := Lib.hid hZ
  clear hZ
  have f2 := H2.out.b.frozen 1026
  obtain ⟨i0, hi, hz0, hz1, hz2⟩ := info_parts infoS
  have hap := Lib.hid (own_apart H2.out.o H2.out.b (by decide))
  have ag : (Value.slice A m cap).ownBlock ≠ some g := fun e => hap.out g e rfl
  have lg := H2.out.b.lt
  have hO : w2.ownsRow base 214 1 (.slice A m cap) m (bs.map sl) := by have := H2.out.o; rw [← HM.out] at this; exact this
  have F3 : Hid (∀ o1 o2, (((w2.alloc o1).alloc o2).drew).frozen? ⟨g, 1026, none⟩ = false) := Lib.hid (fun o1 o2 => ((grows (below_alloc _ _) (below_alloc _ _)).frozen (p := ⟨g, 1026, none⟩) lg).trans f2)
  have C3 : Hid (∀ o1 o2, (((w2.alloc o1).alloc o2).drew).cell? ⟨g, 1026, none⟩ = some (.slice A m cap)) := Lib.hid (fun o1 o2 => ((grows (below_alloc _ _) (below_alloc _ _)).cell (p := ⟨g, 1026, none⟩) lg).trans c2)
  go_region_law (refine step_append_lies _ (by rfl) _ _ _ (by rfl) base 214 i0 _ 1 24 Tryz.underlying188 hi hz0 hz1 hz2 rfl (by omega) (.slice A m cap) m (bs.map sl) (by rfl) (((hO.alloc _).alloc _).drew) ⟨w2.heap.size + 1, 0, none⟩ 1 1 [sl w2.heap.size] (by rfl) (by rfl) (World.news_of_block (cs := #[sl w2.heap.size]) (t := 214) (fr := (0, 0)) (by rw [← size_alloc w2 (.cells Z 186)]; exact heap_alloc_new _ _)) (by simp [Value.oneCell', sl]) (by omega) (by unfold maxLen; omega) (by omega) (by simp; omega) (w2.heap.size + 2) (by simp) ?_; intro gg cap1 w1 hown1 hgrow hat hlt; have fz := (hgrow.frozen_far ⟨g, 1026, none⟩ (by simp; omega) (Ne.symm ag)).trans (F3.out _ _); have cz := (hgrow.cell_far ⟨g, 1026, none⟩ (by simp; omega) (Ne.symm ag)).trans (C3.out _ _))
  all_goals
    rw [HZ.out] at hgrow
    obtain ⟨t4, b4⟩ := tb_more H2.out HM.out hb2 hown1 hgrow
    have T4 := Lib.hid t4
    have B4 := Lib.hid b4
    clear t4 b4 hown1 hgrow hat hlt fz cz C3 F3 hO hmk ag c2 f2
    generalize w1.setCell ⟨g, 1026, none⟩ (.slice (some ⟨gg, 0, none⟩) (m + 1) cap1) = w4 at *
    have el : linkF F p m p = (16, m) := if_pos rfl
    have ka := T4.out.ca hp
    have kb := T4.out.cb hp
    rw [el] at ka kb
    have kl := T4.out.cl
    obtain ⟨r, cap2, hr, cr⟩ := T4.out.row (i := m) (by simp [HM.out])
    injection hr with hr1 _ _
    injection hr1 with hr1
    injection hr1 with hr1 _ _
    subst hr1
    have eB : (bs ++ [w2.heap.size]).getD m 0 = w2.heap.size := by simp [HM.out, List.getD_eq_getElem?_getD]
    rw [eB] at cr
    unfold sl at cr
    clear eB el
    obtain ⟨B, hB⟩ : ∃ B, B = w2.heap.size := ⟨_, rfl⟩
    rw [← hB] at cr
    have HB := Lib.hid hB
    obtain ⟨M, hM⟩ : ∃ M, M = m + 1 := ⟨_, rfl⟩
    rw [← hM] at kl
    have hmM : m < M := by omega
    clear hB hM
    go_wp2
    go_quiet (fail)
    go_wp2
    go_ret
    exact ⟨B, _, rfl, by rw [HB.out]; exact T4.out.draws _, (B2.out.trans B4.out).draws _, by rw [HB.out]; exact B2.out.size⟩
end Go.Proofs.YtnkninjdpgpkmaaGreatDoor.Pe
namespace Go.Proofs.YtnkninjdpgpkmaaGreatDoor.Pf
open Go.RowKit Go.Proofs.YtnkninjdpgpkmaaGreatDoor.Vm Go.Proofs.YtnkninjdpgpkmaaGreatDoor.Bm Go.Proofs.YtnkninjdpgpkmaaGreatDoor.Bt Go.Proofs.YtnkninjdpgpkmaaGreatDoor.Bw Go.Proofs.YtnkninjdpgpkmaaGreatDoor.Br Go.Proofs.YtnkninjdpgpkmaaGreatDoor.Bs Go.Proofs.YtnkninjdpgpkmaaGreatDoor.Na Go.Proofs.YtnkninjdpgpkmaaGreatDoor.Nm Go.Proofs.YtnkninjdpgpkmaaGreatDoor.Nw Go.Proofs.YtnkninjdpgpkmaaGreatDoor.Ne Go.Proofs.YtnkninjdpgpkmaaGreatDoor.Pm Go.Proofs.YtnkninjdpgpkmaaGreatDoor.Pt Go.Proofs.YtnkninjdpgpkmaaGreatDoor.Pc Go.Proofs.YtnkninjdpgpkmaaGreatDoor.Pd Go.Proofs.YtnkninjdpgpkmaaGreatDoor.Pe

theorem turn_code {l : List Nat} {k : Nat} (hx : nth l k ≤ 15) (hc : code l k < 2 ^ nth l k) : turnR (code l k : Int) (nth l k : Int) = (tc l k : Int) := by
  have h1 : code l k < 32768 := Nat.lt_of_lt_of_le hc (Nat.pow_le_pow_right (by omega) hx : 2 ^ nth l k ≤ 2 ^ 15)
  have e : ((code l k : Int) % 18446744073709551616).toNat = code l k := by omega
  unfold turnR tc
  rw [if_pos (by simp [cnt]; omega), e]
  rfl

theorem drews_below {B : Nat} {a b : World} (h : Below B a b) (n : Nat) : Below B a (b.drewN n) := ⟨h.os, h.tape, h.output, h.size, h.block⟩
/-- The variable that holds what is found. -/
theorem found_only {base : Nat} {w w' : World} {g n : Nat} {F : Nat → Nat × Nat} {v : Value} {bs : List Nat} {G : Nat → Nat → Nat × Nat} {f : Nat} {cs : Array Value} (h : tb base w g n F v bs G) (hf : Blk w f 186 cs) (k : Only (tk g v) w w') : Blk w' f 186 cs :=
  hf.only k (fun e => by
    rcases e with e | e
    · exact Blk.apart hf h.b (by decide) e
    · exact own_apart h.o hf (by decide) f e rfl)
theorem tk_below {base : Nat} {w0 w w' : World} {g n : Nat} {F : Nat → Nat × Nat} {v : Value} {bs : List Nat} {G : Nat → Nat → Nat × Nat} (h : tb base w g n F v bs G) (k : Only (tk g v) w w') (b : Below base w0 w) : Below base w0 w' :=
  k.below b (Nat.le_trans h.g0 (Nat.le_of_lt h.b.lt)) (fun i hi => by
    rcases hi with hi | hi
    · rw [hi]; exact h.g0
    · exact (h.o.lt i hi).1)

set_option maxRecDepth 100000 in
theorem add_short {base : Nat} {w : World} {g n : Nat} {F : Nat → Nat × Nat} {v : Value} {bs : List Nat} {G : Nat → Nat → Nat × Nat} {k c x b : Nat} (h : tb base w g n F v bs G) (hkl : k < 320) (h9 : x ≤ 9) (hT : turnR (c : Int) (x : Int) = (b : Int)) (hbl : b < 2 ^ x) :
    Calls Tryz.prog 131 #[.pointer (some ⟨g, 0, none⟩), .int .i64 k, .int .i64 c, .int .i64 x] w fun e w' => e = .returned (.tuple #[]) ∧ tb base w' g n (putF F x b k) v bs G ∧ Below base w w' := by
  have HT : Hid (∀ u, Calls Tryz.prog 155 #[.int .i64 c, .int .i64 x] u fun e w' => e = .returned (.int .i64 (b : Int)) ∧ u = w') := Lib.hid (fun u => by
    have := Turn_any (c : Int) (x : Int) u
    rw [hT] at this
    exact this)
  have H := Lib.hid h
  have hb9 : b < 512 := Nat.lt_of_lt_of_le hbl (Nat.pow_le_pow_right (by omega) h9 : 2 ^ x ≤ 2 ^ 9)
  have HBL := Lib.hid hbl
  clear hT h hbl
  go_enter Tryz.func131, Tryz.ntmps131
  go_wp2_with (go_at_call 155; refine (HT.out _).mono ?_; rintro e w' ⟨rfl, rfl⟩)
  obtain ⟨w1, hw1⟩ : ∃ w1, w1 = w.alloc (.cells #[.int .u16 x, .int .u16 k] 186) := ⟨_, rfl⟩
  have X1 : Hid (Blk w1 w.heap.size 186 #[.int .u16 x, .int .u16 k]) := Lib.hid (by rw [hw1]; exact Blk.fresh w _ _)
  have b1 : Below w.heap.size w w1 := by rw [hw1]; exact below_alloc _ _
  have T1 := Lib.hid (H.out.below b1)
  have B1 : Hid (Below base w w1) := Lib.hid (b1.mono (Nat.le_trans H.out.g0 (Nat.le_of_lt H.out.b.lt)))
  have hgf : g < w.heap.size := H.out.b.lt
  rw [← hw1]
  clear hw1 b1 H
  obtain ⟨f, hf⟩ : ∃ f, f = w.heap.size := ⟨_, rfl⟩
  rw [← hf] at X1 hgf ⊢
  clear hf
  have x0 := X1.out.cell 0
  have x1 := X1.out.cell 1
  have HFi : Hid (∀ u, tb base u g n F v bs G → Blk u f 186 #[.int .u16 x, .int .u16 k] → Calls Tryz.prog 156 #[.slice (some ⟨g, 2, none⟩) 512 512, .int .i64 b, .int .i64 x, .agg #[.int .u16 x, .int .u16 k]] u fun e w' => e = .returned (.tuple #[]) ∧ tb base w' g n (putF F x b k) v bs G ∧ Blk w' f 186 #[.int .u16 x, .int .u16 k] ∧ Only (At g) u w') := Lib.hid (fun u hu hX =>
    (fill_any (Lib.hid (pairs_t (.pointer (some ⟨g, 0, none⟩)) n v)) (by omega) (Lib.hid hu.b) x b x k (by omega) HBL.out).mono (fun e w' ⟨he, hb, ho⟩ => ⟨he, hu.first ho hb, hX.only ho (fun e => by have e' : f = g := e; omega), ho⟩))
  go_region_held3 (fun u => u.cell? ⟨f, 0, none⟩ = some (.int .u16 x) ∧ u.cell? ⟨f, 1, none⟩ = some (.int .u16 k)) (go_keep)
    ((go_at_call 156; refine (HFi.out _ (T1.out.draws 1) X1.out).mono ?_; rintro e w2 ⟨rfl, t2, x2, o2⟩; have y0 := x2.cell 0; have y1 := x2.cell 1))
  go_wp2
  refine bodyPost_ret (results_none rfl _ _ _) rfl ?_
  exact ⟨rfl, t2, o2.below (drews_below B1.out 1) (Nat.le_trans T1.out.g0 (Nat.le_of_lt T1.out.b.lt)) (fun i hi => by have e : i = g := hi; rw [e]; exact T1.out.g0)⟩

/-- Behind a call of behind: the second table of the bits p is at B. -/
structure lnk (base : Nat) (u w' : World) (g n f : Nat) (l : List Nat) (k p B : Nat) (F : Nat → Nat × Nat) (v : Value) (bs : List Nat) (G : Nat → Nat → Nat × Nat) (cs : Array Value) : Prop where
  ht : tb base w' g n F v bs G
  hi : inv l k bs.length (some p) F G
  hl : (F p).1 = 16
  he : bs.getD (F p).2 0 = B
  hf : Blk w' f 186 cs
  hn : B ≠ f
  hb : Below base u w'
theorem behind_inv {base : Nat} {u : World} {g n f : Nat} {F : Nat → Nat × Nat} {v : Value} {bs : List Nat} {G : Nat → Nat → Nat × Nat} {l : List Nat} {k : Nat} {cs : Array Value} (h15 : ∀ i, nth l i ≤ 15) (hks : ksum l 16 ≤ 32768) (hkl : k < l.length) (hl : l.length ≤ 320) (h9 : 9 < nth l k)
    (h : tb base u g n F v bs G) (hi : inv l k bs.length none F G) (hf : Blk u f 186 cs) (hne : ∀ i, i < bs.length → bs.getD i 0 ≠ f) :
    Calls Tryz.prog 157 #[.pointer (some ⟨g, 0, none⟩), .int .i64 ((tc l k % 512 : Nat) : Int)] u fun e w' => ∃ B F' v' bs' G', e = .returned (sl B) ∧ lnk base u w' g n f l k (tc l k % 512) B F' v' bs' G' cs := by
  have hp : tc l k % 512 < 512 := Nat.mod_lt _ (by omega)
  have hle := hi.le
  simp at hle
  by_cases h16 : (F (tc l k % 512)).1 = 16
  · have hlt := (hi.lk _ hp h16).1
    refine (behind_old h hp h16 hlt).mono ?_
    rintro e w' ⟨rfl, m, rfl⟩
    exact ⟨_, F, v, bs, G, rfl, h.draws m, inv_old _ hi, h16, rfl, hf, hne _ hlt, drews_below (Below.refl _ _) m⟩
  · refine (behind_new h hp h16 (by omega)).mono ?_
    rintro e w' ⟨B, v', rfl, t', o', hB⟩
    have hz := free h15 hks hkl (by omega) hi h16
    have el : linkF F (tc l k % 512) bs.length (tc l k % 512) = (16, bs.length) := if_pos rfl
    refine ⟨B, _, v', bs ++ [B], _, rfl, t', ?_, by rw [el], ?_, found_only h hf o', ?_, tk_below h o' (Below.refl _ _)⟩
    · have := inv_new hi hz
      rw [List.length_append]; exact this
    · rw [el]; simp [List.getD_eq_getElem?_getD]
    · have := hf.lt; omega
theorem fill_second {base : Nat} {u w0 : World} {g n f : Nat} {F : Nat → Nat × Nat} {v : Value} {bs : List Nat} {G : Nat → Nat → Nat × Nat} {l : List Nat} {k B : Nat} {cs : Array Value} (h15 : ∀ i, nth l i ≤ 15) (hkl : k < l.length) (h9 : 9 < nth l k) (h : lnk base w0 u g n f l k (tc l k % 512) B F v bs G cs) :
    Calls Tryz.prog 156 #[sl B, .int .i64 ((tc l k / 512 : Nat) : Int), .int .i64 ((nth l k - 9 : Nat) : Int), .agg #[.int .u16 (nth l k), .int .u16 k]] u fun e w' => e = .returned (.tuple #[]) ∧ tb base w' g n F v bs (putG G (F (tc l k % 512)).2 (nth l k) (tc l k) k) ∧ inv l (k + 1) bs.length none F (putG G (F (tc l k % 512)).2 (nth l k) (tc l k) k) ∧ Blk w' f 186 cs ∧ Below base w0 w' := by
  have hlt := (h.hi.lk _ (Nat.mod_lt _ (by omega)) h.hl).1
  have hB := h.ht.s _ hlt
  rw [h.he] at hB
  have h5 := h15 k
  refine (fill_any (Lib.hid pairs_s) (by omega) (Lib.hid hB) (nth l k - 9) (tc l k / 512) (nth l k) k (by omega) (div_lt_long (by omega) (tc_lt l k))).mono ?_
  rintro e w' ⟨rfl, b', o'⟩
  rw [← h.he] at b' o'
  refine ⟨rfl, h.ht.second hlt o' b', inv_long hkl h9 h.hi h.hl, h.hf.only o' (fun e => h.hn (by rw [← h.he]; exact e.symm)), ?_⟩
  exact o'.below h.hb (Nat.le_trans h.ht.g0 (Nat.le_of_lt h.ht.b.lt)) (fun i hi => by have e : i = bs.getD (F (tc l k % 512)).2 0 := hi; rw [e]; exact h.ht.lo _ hlt)

set_option maxHeartbeats 1000000 in
set_option maxRecDepth 100000 in
theorem add_long {base : Nat} {w : World} {g n : Nat} {F : Nat → Nat × Nat} {v : Value} {bs : List Nat} {G : Nat → Nat → Nat × Nat} {l : List Nat} {k : Nat} (h15 : ∀ i, nth l i ≤ 15) (hks : ksum l 16 ≤ 32768) (hkl : k < l.length) (hl : l.length ≤ 320) (h9 : 9 < nth l k)
    (h : tb base w g n F v bs G) (hi : inv l k bs.length none F G) (hT : turnR (code l k : Int) (nth l k : Int) = (tc l k : Int)) :
    Calls Tryz.prog 131 #[.pointer (some ⟨g, 0, none⟩), .int .i64 k, .int .i64 (code l k), .int .i64 (nth l k)] w fun e w' => e = .returned (.tuple #[]) ∧ ∃ F' v' bs' G', tb base w' g n F' v' bs' G' ∧ inv l (k + 1) bs'.length none F' G' ∧ Below base w w' := by
  have HT : Hid (∀ u, Calls Tryz.prog 155 #[.int .i64 (code l k), .int .i64 (nth l k)] u fun e w' => e = .returned (.int .i64 (tc l k : Int)) ∧ u = w') := Lib.hid (fun u => by
    have := Turn_any (code l k : Int) (nth l k : Int) u
    rw [hT] at this
    exact this)
  have H := Lib.hid h
  have HI := Lib.hid hi
  have HBh : Hid (∀ u (f : Nat) (cs : Array Value) (z : Int), z = ((tc l k % 512 : Nat) : Int) → tb base u g n F v bs G → Blk u f 186 cs → (∀ i, i < bs.length → bs.getD i 0 ≠ f) → Calls Tryz.prog 157 #[.pointer (some ⟨g, 0, none⟩), .int .i64 z] u fun e w' => ∃ B F' v' bs' G', e = .returned (.slice (some ⟨B, 0, none⟩) 64 64) ∧ lnk base u w' g n f l k (tc l k % 512) B F' v' bs' G' cs) :=
    Lib.hid (fun u f cs z hz hu hf hne => by rw [hz]; exact behind_inv h15 hks hkl hl h9 hu hi hf hne)
  have HFi : Hid (∀ u w0 f B F' v' bs' G' (cs : Array Value) (a c : Int), a = ((tc l k / 512 : Nat) : Int) → c = ((nth l k - 9 : Nat) : Int) → lnk base w0 u g n f l k (tc l k % 512) B F' v' bs' G' cs → Calls Tryz.prog 156 #[.slice (some ⟨B, 0, none⟩) 64 64, .int .i64 a, .int .i64 c, .agg #[.int .u16 (nth l k), .int .u16 k]] u fun e w' => e = .returned (.tuple #[]) ∧ tb base w' g n F' v' bs' (putG G' (F' (tc l k % 512)).2 (nth l k) (tc l k) k) ∧ inv l (k + 1) bs'.length none F' (putG G' (F' (tc l k % 512)).2 (nth l k) (tc l k) k) ∧ Blk w' f 186 cs ∧ Below base w0 w') :=
    Lib.hid (fun u w0 f B F' v' bs' G' cs a c ha hc hL => by rw [ha, hc]; exact fill_second h15 hkl h9 hL)
  have hx15 := h15 k
  have hb15 := tc_small h15 k
  obtain ⟨x, hx⟩ : ∃ x, x = nth l k := ⟨_, rfl⟩
  obtain ⟨b, hbe⟩ : ∃ b, b = tc l k := ⟨_, rfl⟩
  obtain ⟨c, hc⟩ : ∃ c, c = code l k := ⟨_, rfl⟩
  rw [← hbe] at HT HBh HFi hb15
  rw [← hx] at HT HFi h9 hx15 ⊢
  rw [← hc] at HT ⊢
  have hk3 : k < 320 := by omega
  clear hx hbe hc hT h hi h15 hks hkl hl
  have E1 : Hid (((b : Int)).tmod 512 = ((b % 512 : Nat) : Int)) := Lib.hid (by rw [Int.tmod_eq_emod_of_nonneg (by omega)]; omega)
  have E2 : Hid ((b : Int) / 512 = ((b / 512 : Nat) : Int)) := Lib.hid (by omega)
  have E3 : Hid (IntKind.i64.wrap ((x : Int) - 9) = ((x - 9 : Nat) : Int)) := Lib.hid (by rw [IntWalk.i64_in _ (by omega)]; omega)
  go_enter Tryz.func131, Tryz.ntmps131
  go_wp2_with (go_at_call 155; refine (HT.out _).mono ?_; rintro e w' ⟨rfl, rfl⟩)
  obtain ⟨w1, hw1⟩ : ∃ w1, w1 = w.alloc (.cells #[.int .u16 x, .int .u16 k] 186) := ⟨_, rfl⟩
  have X1 : Hid (Blk w1 w.heap.size 186 #[.int .u16 x, .int .u16 k]) := Lib.hid (by rw [hw1]; exact Blk.fresh w _ _)
  have b1 : Below w.heap.size w w1 := by rw [hw1]; exact below_alloc _ _
  have T1 := Lib.hid (H.out.below b1)
  have B1 : Hid (Below base w w1) := Lib.hid (b1.mono (Nat.le_trans H.out.g0 (Nat.le_of_lt H.out.b.lt)))
  have HNe : Hid (∀ i, i < bs.length → bs.getD i 0 ≠ w.heap.size) := Lib.hid (fun i hi => by have := (H.out.s i hi).lt; omega)
  rw [← hw1]
  clear hw1 b1 H
  obtain ⟨f, hf⟩ : ∃ f, f = w.heap.size := ⟨_, rfl⟩
  rw [← hf] at X1 HNe ⊢
  clear hf
  have x0 := X1.out.cell 0
  have x1 := X1.out.cell 1
  go_region_held3 (fun u => u.cell? ⟨f, 0, none⟩ = some (.int .u16 x) ∧ u.cell? ⟨f, 1, none⟩ = some (.int .u16 k)) (go_keep)
    (first | (go_at_call 157; refine (HBh.out _ f _ _ E1.out (T1.out.draws 1) X1.out HNe.out).mono ?_; rintro e w2 ⟨B, F', v', bs', G', rfl, hL⟩; have HL := Lib.hid hL; have y0 := hL.hf.cell 0; have y1 := hL.hf.cell 1; clear hL) | (go_at_call 156; refine (HFi.out _ _ f B F' v' bs' G' _ _ _ E2.out E3.out HL.out).mono ?_; rintro e w3 ⟨rfl, t3, i3, x3, b3⟩; have z0 := x3.cell 0; have z1 := x3.cell 1) | (fail "AT"))
  go_wp2
  go_end0
  exact ⟨rfl, F', v', bs', _, t3, i3, (drews_below B1.out 1).trans b3⟩
end Go.Proofs.YtnkninjdpgpkmaaGreatDoor.Pf
