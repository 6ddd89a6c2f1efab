/-
  add, called with a table that New is making: the table with one symbol more.
  Conditions: as each theorem says.
-/
import Derived.Test.YtgbdecnaamlekaaDoorPe
import Derived.Test.YtgbdecnaamlekaaDoorBt
import Derived.Deep.RegionHeld3
namespace Go.Proofs.YtgbdecnaamlekaaDoor.Pf
open Go.RowKit Go.Proofs.YtgbdecnaamlekaaDoor.Vm Go.Proofs.YtgbdecnaamlekaaDoor.Bm Go.Proofs.YtgbdecnaamlekaaDoor.Bt Go.Proofs.YtgbdecnaamlekaaDoor.Bw Go.Proofs.YtgbdecnaamlekaaDoor.Br Go.Proofs.YtgbdecnaamlekaaDoor.Bs Go.Proofs.YtgbdecnaamlekaaDoor.Na Go.Proofs.YtgbdecnaamlekaaDoor.Nm Go.Proofs.YtgbdecnaamlekaaDoor.Nw Go.Proofs.YtgbdecnaamlekaaDoor.Ne Go.Proofs.YtgbdecnaamlekaaDoor.Pm Go.Proofs.YtgbdecnaamlekaaDoor.Pt Go.Proofs.YtgbdecnaamlekaaDoor.Pc Go.Proofs.YtgbdecnaamlekaaDoor.Pd Go.Proofs.YtgbdecnaamlekaaDoor.Pe

theorem turn_code {l : List Nat} {k : Nat} (hx : nth l k ≤ 15) (hc : code l k < 2 ^ nth l k) : turnR (code l k : Int) (nth l k : Int) = (tc l k : Int) := by
  have h1 : code l k < 32768 := Nat.lt_of_lt_of_le hc (Nat.pow_le_pow_right (by omega) hx : 2 ^ nth l k ≤ 2 ^ 15)
  have e : ((code l k : Int) % 18446744073709551616).toNat = code l k := by omega
  unfold turnR tc
  rw [if_pos (by simp [cnt]; omega), e]
  rfl

theorem drews_below {B : Nat} {a b : World} (h : Below B a b) (n : Nat) : Below B a (b.drewN n) := ⟨h.os, h.tape, h.output, h.size, h.block⟩
/-- The variable that holds what is found. -/
theorem found_only {base : Nat} {w w' : World} {g n : Nat} {F : Nat → Nat × Nat} {v : Value} {bs : List Nat} {G : Nat → Nat → Nat × Nat} {f : Nat} {cs : Array Value} (h : tb base w g n F v bs G) (hf : Blk w f 124 cs) (k : Only (tk g v) w w') : Blk w' f 124 cs :=
  hf.only k (fun e => by
    rcases e with e | e
    · exact Blk.apart hf h.b (by decide) e
    · exact own_apart h.o hf (by decide) f e rfl)
theorem tk_below {base : Nat} {w0 w w' : World} {g n : Nat} {F : Nat → Nat × Nat} {v : Value} {bs : List Nat} {G : Nat → Nat → Nat × Nat} (h : tb base w g n F v bs G) (k : Only (tk g v) w w') (b : Below base w0 w) : Below base w0 w' :=
  k.below b (Nat.le_trans h.g0 (Nat.le_of_lt h.b.lt)) (fun i hi => by
    rcases hi with hi | hi
    · rw [hi]; exact h.g0
    · exact (h.o.lt i hi).1)

set_option maxRecDepth 100000 in
theorem add_short {base : Nat} {w : World} {g n : Nat} {F : Nat → Nat × Nat} {v : Value} {bs : List Nat} {G : Nat → Nat → Nat × Nat} {k c x b : Nat} (h : tb base w g n F v bs G) (hkl : k < 320) (h9 : x ≤ 9) (hT : turnR (c : Int) (x : Int) = (b : Int)) (hbl : b < 2 ^ x) :
    Calls Tryd.prog 99 #[.pointer (some ⟨g, 0, none⟩), .int .i64 k, .int .i64 c, .int .i64 x] w fun e w' => e = .returned (.tuple #[]) ∧ tb base w' g n (putF F x b k) v bs G ∧ Below base w w' := by
  have HT : Hid (∀ u, Calls Tryd.prog 106 #[.int .i64 c, .int .i64 x] u fun e w' => e = .returned (.int .i64 (b : Int)) ∧ u = w') := Lib.hid (fun u => by
    have := Turn_any (c : Int) (x : Int) u
    rw [hT] at this
    exact this)
  have H := Lib.hid h
  have hb9 : b < 512 := Nat.lt_of_lt_of_le hbl (Nat.pow_le_pow_right (by omega) h9 : 2 ^ x ≤ 2 ^ 9)
  have HBL := Lib.hid hbl
  clear hT h hbl
  go_enter Tryd.func99, Tryd.ntmps99
  go_wp2_with (go_at_call 106; refine (HT.out _).mono ?_; rintro e w' ⟨rfl, rfl⟩)
  obtain ⟨w1, hw1⟩ : ∃ w1, w1 = w.alloc (.cells #[.int .u16 x, .int .u16 k] 124) := ⟨_, rfl⟩
  have X1 : Hid (Blk w1 w.heap.size 124 #[.int .u16 x, .int .u16 k]) := Lib.hid (by rw [hw1]; exact Blk.fresh w _ _)
  have b1 : Below w.heap.size w w1 := by rw [hw1]; exact below_alloc _ _
  have T1 := Lib.hid (H.out.below b1)
  have B1 : Hid (Below base w w1) := Lib.hid (b1.mono (Nat.le_trans H.out.g0 (Nat.le_of_lt H.out.b.lt)))
  have hgf : g < w.heap.size := H.out.b.lt
  rw [← hw1]
  clear hw1 b1 H
  obtain ⟨f, hf⟩ : ∃ f, f = w.heap.size := ⟨_, rfl⟩
  rw [← hf] at X1 hgf ⊢
  clear hf
  have x0 := X1.out.cell 0
  have x1 := X1.out.cell 1
  have HFi : Hid (∀ u, tb base u g n F v bs G → Blk u f 124 #[.int .u16 x, .int .u16 k] → Calls Tryd.prog 107 #[.slice (some ⟨g, 2, none⟩) 512 512, .int .i64 b, .int .i64 x, .agg #[.int .u16 x, .int .u16 k]] u fun e w' => e = .returned (.tuple #[]) ∧ tb base w' g n (putF F x b k) v bs G ∧ Blk w' f 124 #[.int .u16 x, .int .u16 k] ∧ Only (At g) u w') := Lib.hid (fun u hu hX =>
    (fill_any (Lib.hid (pairs_t (.pointer (some ⟨g, 0, none⟩)) n v)) (by omega) (Lib.hid hu.b) x b x k (by omega) HBL.out).mono (fun e w' ⟨he, hb, ho⟩ => ⟨he, hu.first ho hb, hX.only ho (fun e => by have e' : f = g := e; omega), ho⟩))
  go_region_held3 (fun u => u.cell? ⟨f, 0, none⟩ = some (.int .u16 x) ∧ u.cell? ⟨f, 1, none⟩ = some (.int .u16 k)) (go_keep)
    ((go_at_call 107; refine (HFi.out _ (T1.out.draws 1) X1.out).mono ?_; rintro e w2 ⟨rfl, t2, x2, o2⟩; have y0 := x2.cell 0; have y1 := x2.cell 1))
  go_wp2
  refine bodyPost_ret (results_none rfl _ _ _) rfl ?_
  exact ⟨rfl, t2, o2.below (drews_below B1.out 1) (Nat.le_trans T1.out.g0 (Nat.le_of_lt T1.out.b.lt)) (fun i hi => by have e : i = g := hi; rw [e]; exact T1.out.g0)⟩

/-- Behind a call of behind: the second table of the bits p is at B. -/
structure lnk (base : Nat) (u w' : World) (g n f : Nat) (l : List Nat) (k p B : Nat) (F : Nat → Nat × Nat) (v : Value) (bs : List Nat) (G : Nat → Nat → Nat × Nat) (cs : Array Value) : Prop where
  ht : tb base w' g n F v bs G
  hi : inv l k bs.length (some p) F G
  hl : (F p).1 = 16
  he : bs.getD (F p).2 0 = B
  hf : Blk w' f 124 cs
  hn : B ≠ f
  hb : Below base u w'
theorem behind_inv {base : Nat} {u : World} {g n f : Nat} {F : Nat → Nat × Nat} {v : Value} {bs : List Nat} {G : Nat → Nat → Nat × Nat} {l : List Nat} {k : Nat} {cs : Array Value} (h15 : ∀ i, nth l i ≤ 15) (hks : ksum l 16 ≤ 32768) (hkl : k < l.length) (hl : l.length ≤ 320) (h9 : 9 < nth l k)
    (h : tb base u g n F v bs G) (hi : inv l k bs.length none F G) (hf : Blk u f 124 cs) (hne : ∀ i, i < bs.length → bs.getD i 0 ≠ f) :
    Calls Tryd.prog 108 #[.pointer (some ⟨g, 0, none⟩), .int .i64 ((tc l k % 512 : Nat) : Int)] u fun e w' => ∃ B F' v' bs' G', e = .returned (sl B) ∧ lnk base u w' g n f l k (tc l k % 512) B F' v' bs' G' cs := by
  have hp : tc l k % 512 < 512 := Nat.mod_lt _ (by omega)
  have hle := hi.le
  simp at hle
  by_cases h16 : (F (tc l k % 512)).1 = 16
  · have hlt := (hi.lk _ hp h16).1
    refine (behind_old h hp h16 hlt).mono ?_
    rintro e w' ⟨rfl, m, rfl⟩
    exact ⟨_, F, v, bs, G, rfl, h.draws m, inv_old _ hi, h16, rfl, hf, hne _ hlt, drews_below (Below.refl _ _) m⟩
  · refine (behind_new h hp h16 (by omega)).mono ?_
    rintro e w' ⟨B, v', rfl, t', o', hB⟩
    have hz := free h15 hks hkl (by omega) hi h16
    have el : linkF F (tc l k % 512) bs.length (tc l k % 512) = (16, bs.length) := if_pos rfl
    refine ⟨B, _, v', bs ++ [B], _, rfl, t', ?_, by rw [el], ?_, found_only h hf o', ?_, tk_below h o' (Below.refl _ _)⟩
    · have := inv_new hi hz
      rw [List.length_append]; exact this
    · rw [el]; simp [List.getD_eq_getElem?_getD]
    · have := hf.lt; omega
theorem fill_second {base : Nat} {u w0 : World} {g n f : Nat} {F : Nat → Nat × Nat} {v : Value} {bs : List Nat} {G : Nat → Nat → Nat × Nat} {l : List Nat} {k B : Nat} {cs : Array Value} (h15 : ∀ i, nth l i ≤ 15) (hkl : k < l.length) (h9 : 9 < nth l k) (h : lnk base w0 u g n f l k (tc l k % 512) B F v bs G cs) :
    Calls Tryd.prog 107 #[sl B, .int .i64 ((tc l k / 512 : Nat) : Int), .int .i64 ((nth l k - 9 : Nat) : Int), .agg #[.int .u16 (nth l k), .int .u16 k]] u fun e w' => e = .returned (.tuple #[]) ∧ tb base w' g n F v bs (putG G (F (tc l k % 512)).2 (nth l k) (tc l k) k) ∧ inv l (k + 1) bs.length none F (putG G (F (tc l k % 512)).2 (nth l k) (tc l k) k) ∧ Blk w' f 124 cs ∧ Below base w0 w' := by
  have hlt := (h.hi.lk _ (Nat.mod_lt _ (by omega)) h.hl).1
  have hB := h.ht.s _ hlt
  rw [h.he] at hB
  have h5 := h15 k
  refine (fill_any (Lib.hid pairs_s) (by omega) (Lib.hid hB) (nth l k - 9) (tc l k / 512) (nth l k) k (by omega) (div_lt_long (by omega) (tc_lt l k))).mono ?_
  rintro e w' ⟨rfl, b', o'⟩
  rw [← h.he] at b' o'
  refine ⟨rfl, h.ht.second hlt o' b', inv_long hkl h9 h.hi h.hl, h.hf.only o' (fun e => h.hn (by rw [← h.he]; exact e.symm)), ?_⟩
  exact o'.below h.hb (Nat.le_trans h.ht.g0 (Nat.le_of_lt h.ht.b.lt)) (fun i hi => by have e : i = bs.getD (F (tc l k % 512)).2 0 := hi; rw [e]; exact h.ht.lo _ hlt)

set_option maxHeartbeats 1000000 in
set_option maxRecDepth 100000 in
theorem add_long {base : Nat} {w : World} {g n : Nat} {F : Nat → Nat × Nat} {v : Value} {bs : List Nat} {G : Nat → Nat → Nat × Nat} {l : List Nat} {k : Nat} (h15 : ∀ i, nth l i ≤ 15) (hks : ksum l 16 ≤ 32768) (hkl : k < l.length) (hl : l.length ≤ 320) (h9 : 9 < nth l k)
    (h : tb base w g n F v bs G) (hi : inv l k bs.length none F G) (hT : turnR (code l k : Int) (nth l k : Int) = (tc l k : Int)) :
    Calls Tryd.prog 99 #[.pointer (some ⟨g, 0, none⟩), .int .i64 k, .int .i64 (code l k), .int .i64 (nth l k)] w fun e w' => e = .returned (.tuple #[]) ∧ ∃ F' v' bs' G', tb base w' g n F' v' bs' G' ∧ inv l (k + 1) bs'.length none F' G' ∧ Below base w w' := by
  have HT : Hid (∀ u, Calls Tryd.prog 106 #[.int .i64 (code l k), .int .i64 (nth l k)] u fun e w' => e = .returned (.int .i64 (tc l k : Int)) ∧ u = w') := Lib.hid (fun u => by
    have := Turn_any (code l k : Int) (nth l k : Int) u
    rw [hT] at this
    exact this)
  have H := Lib.hid h
  have HI := Lib.hid hi
  have HBh : Hid (∀ u (f : Nat) (cs : Array Value) (z : Int), z = ((tc l k % 512 : Nat) : Int) → tb base u g n F v bs G → Blk u f 124 cs → (∀ i, i < bs.length → bs.getD i 0 ≠ f) → Calls Tryd.prog 108 #[.pointer (some ⟨g, 0, none⟩), .int .i64 z] u fun e w' => ∃ B F' v' bs' G', e = .returned (.slice (some ⟨B, 0, none⟩) 64 64) ∧ lnk base u w' g n f l k (tc l k % 512) B F' v' bs' G' cs) :=
    Lib.hid (fun u f cs z hz hu hf hne => by rw [hz]; exact behind_inv h15 hks hkl hl h9 hu hi hf hne)
  have HFi : Hid (∀ u w0 f B F' v' bs' G' (cs : Array Value) (a c : Int), a = ((tc l k / 512 : Nat) : Int) → c = ((nth l k - 9 : Nat) : Int) → lnk base w0 u g n f l k (tc l k % 512) B F' v' bs' G' cs → Calls Tryd.prog 107 #[.slice (some ⟨B, 0, none⟩) 64 64, .int .i64 a, .int .i64 c, .agg #[.int .u16 (nth l k), .int .u16 k]] u fun e w' => e = .returned (.tuple #[]) ∧ tb base w' g n F' v' bs' (putG G' (F' (tc l k % 512)).2 (nth l k) (tc l k) k) ∧ inv l (k + 1) bs'.length none F' (putG G' (F' (tc l k % 512)).2 (nth l k) (tc l k) k) ∧ Blk w' f 124 cs ∧ Below base w0 w') :=
    Lib.hid (fun u w0 f B F' v' bs' G' cs a c ha hc hL => by rw [ha, hc]; exact fill_second h15 hkl h9 hL)
  have hx15 := h15 k
  have hb15 := tc_small h15 k
  obtain ⟨x, hx⟩ : ∃ x, x = nth l k := ⟨_, rfl⟩
  obtain ⟨b, hbe⟩ : ∃ b, b = tc l k := ⟨_, rfl⟩
  obtain ⟨c, hc⟩ : ∃ c, c = code l k := ⟨_, rfl⟩
  rw [← hbe] at HT HBh HFi hb15
  rw [← hx] at HT HFi h9 hx15 ⊢
  rw [← hc] at HT ⊢
  have hk3 : k < 320 := by omega
  clear hx hbe hc hT h hi h15 hks hkl hl
  have E1 : Hid (((b : Int)).tmod 512 = ((b % 512 : Nat) : Int)) := Lib.hid (by rw [Int.tmod_eq_emod_of_nonneg (by omega)]; omega)
  have E2 : Hid ((b : Int) / 512 = ((b / 512 : Nat) : Int)) := Lib.hid (by omega)
  have E3 : Hid (IntKind.i64.wrap ((x : Int) - 9) = ((x - 9 : Nat) : Int)) := Lib.hid (by rw [IntWalk.i64_in _ (by omega)]; omega)
  go_enter Tryd.func99, Tryd.ntmps99
  go_wp2_with (go_at_call 106; refine (HT.out _).mono ?_; rintro e w' ⟨rfl, rfl⟩)
  obtain ⟨w1, hw1⟩ : ∃ w1, w1 = w.alloc (.cells #[.int .u16 x, .int .u16 k] 124) := ⟨_, rfl⟩
  have X1 : Hid (Blk w1 w.heap.size 124 #[.int .u16 x, .int .u16 k]) := Lib.hid (by rw [hw1]; exact Blk.fresh w _ _)
  have b1 : Below w.heap.size w w1 := by rw [hw1]; exact below_alloc _ _
  have T1 := Lib.hid (H.out.below b1)
  have B1 : Hid (Below base w w1) := Lib.hid (b1.mono (Nat.le_trans H.out.g0 (Nat.le_of_lt H.out.b.lt)))
  have HNe : Hid (∀ i, i < bs.length → bs.getD i 0 ≠ w.heap.size) := Lib.hid (fun i hi => by have := (H.out.s i hi).lt; omega)
  rw [← hw1]
  clear hw1 b1 H
  obtain ⟨f, hf⟩ : ∃ f, f = w.heap.size := ⟨_, rfl⟩
  rw [← hf] at X1 HNe ⊢
  clear hf
  have x0 := X1.out.cell 0
  have x1 := X1.out.cell 1
  go_region_held3 (fun u => u.cell? ⟨f, 0, none⟩ = some (.int .u16 x) ∧ u.cell? ⟨f, 1, none⟩ = some (.int .u16 k)) (go_keep)
    (first | (go_at_call 108; refine (HBh.out _ f _ _ E1.out (T1.out.draws 1) X1.out HNe.out).mono ?_; rintro e w2 ⟨B, F', v', bs', G', rfl, hL⟩; have HL := Lib.hid hL; have y0 := hL.hf.cell 0; have y1 := hL.hf.cell 1; clear hL) | (go_at_call 107; refine (HFi.out _ _ f B F' v' bs' G' _ _ _ E2.out E3.out HL.out).mono ?_; rintro e w3 ⟨rfl, t3, i3, x3, b3⟩; have z0 := x3.cell 0; have z1 := x3.cell 1) | (fail "AT"))
  go_wp2
  go_end0
  exact ⟨rfl, F', v', bs', _, t3, i3, (drews_below B1.out 1).trans b3⟩
end Go.Proofs.YtgbdecnaamlekaaDoor.Pf
