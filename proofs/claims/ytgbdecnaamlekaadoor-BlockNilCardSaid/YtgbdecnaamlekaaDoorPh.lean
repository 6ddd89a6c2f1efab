/-
  Read, called with a table that New made and a reader that bitrow made: the symbol, and where the reader stands.
  Conditions: as each theorem says.
-/
import Derived.Test.YtgbdecnaamlekaaDoorPg
import Derived.Test.YtgbdecnaamlekaaDoorBs
namespace Go.Proofs.YtgbdecnaamlekaaDoor.Ph
open Go.RowKit Go.Proofs.YtgbdecnaamlekaaDoor.Vm Go.Proofs.YtgbdecnaamlekaaDoor.Bm Go.Proofs.YtgbdecnaamlekaaDoor.Bt Go.Proofs.YtgbdecnaamlekaaDoor.Bw Go.Proofs.YtgbdecnaamlekaaDoor.Br Go.Proofs.YtgbdecnaamlekaaDoor.Bp Go.Proofs.YtgbdecnaamlekaaDoor.Bs Go.Proofs.YtgbdecnaamlekaaDoor.Na Go.Proofs.YtgbdecnaamlekaaDoor.Nm Go.Proofs.YtgbdecnaamlekaaDoor.Nw Go.Proofs.YtgbdecnaamlekaaDoor.Pm Go.Proofs.YtgbdecnaamlekaaDoor.Pt Go.Proofs.YtgbdecnaamlekaaDoor.Pc Go.Proofs.YtgbdecnaamlekaaDoor.Pd Go.Proofs.YtgbdecnaamlekaaDoor.Pe Go.Proofs.YtgbdecnaamlekaaDoor.Pf Go.Proofs.YtgbdecnaamlekaaDoor.Pg

theorem tabl.below {w w' : World} {g n : Nat} {l : List Nat} (h : tabl w g n l) (k : Below w.heap.size w w') : tabl w' g n l := by
  obtain ⟨base, F, v, bs, G, ht, hi⟩ := h
  exact ⟨base, F, v, bs, G, ht.below k, hi⟩
theorem tabl.apart {w w' : World} {g n r : Nat} {l : List Nat} {t : TypeId} {cs : Array Value} (h : tabl w g n l) (hr : Blk w r t cs) (h1 : t ≠ 128) (h2 : t ≠ 133) (h3 : t ≠ 124) (k : Only (At r) w w') : tabl w' g n l := by
  obtain ⟨base, F, v, bs, G, ht, hi⟩ := h
  exact ⟨base, F, v, bs, G, ht.apart hr h1 h2 h3 k, hi⟩
/-- What find tells, and what comes of it. -/
structure tells (l : List Nat) (N a left c d : Nat) : Prop where
  c15 : c ≤ 15
  d3 : d < 320
  ways : (0 < c ∧ c ≤ left ∧ gotS l N a left = (d : Int) ∧ gotE l N a left = 0 ∧ gotA l N a left = a + c) ∨ (0 < c ∧ left < c ∧ gotS l N a left = 0 ∧ gotE l N a left = 2 ∧ gotA l N a left = a)
    ∨ (c = 0 ∧ left < 15 ∧ gotS l N a left = 0 ∧ gotE l N a left = 2 ∧ gotA l N a left = a) ∨ (c = 0 ∧ ¬ left < 15 ∧ gotS l N a left = 0 ∧ gotE l N a left = 9 ∧ gotA l N a left = a)
theorem tells_of {l : List Nat} {m : Nat} {F : Nat → Nat × Nat} {G : Nat → Nat → Nat × Nat} (h15 : ∀ i, nth l i ≤ 15) (hks : ksum l 16 ≤ 32768) (hl : l.length ≤ 320) (h : inv l l.length m none F G) (N a left : Nat) : tells l N a left (lkp F G (peekN N a 15)).1 (lkp F G (peekN N a 15)).2 := by
  rcases h.sp (peekN N a 15) (peekN_lt N a 15) with ⟨s, hs, ha, e⟩ | ⟨hn, e⟩
  · have hr := (reads_At h15 hks hs N a).2 ha
    rw [e]
    refine ⟨h15 s, by show s < 320; omega, ?_⟩
    by_cases hle : nth l s ≤ left
    · have hg := got_some h15 hs hr hle
      exact .inl ⟨ha.1, hle, by simp [gotS, hg], by simp [gotE, hg], by simp [gotA, hg]⟩
    · have hg : got l N a left = none := got_none (fun i hi hri => by rw [reads_one h15 hi hs hri hr]; exact hle)
      have h5 := h15 s
      exact .inr (.inl ⟨ha.1, by show left < nth l s; omega, by simp [gotS, hg], by simp [gotE, hg]; omega, by simp [gotA, hg]⟩)
  · have hg : got l N a left = none := got_none (fun i hi hri => absurd ((reads_At h15 hks hi N a).1 hri) (hn i hi))
    rw [e]
    refine ⟨by show 0 ≤ 15; omega, by show 0 < 320; omega, ?_⟩
    by_cases h5 : left < 15
    · exact .inr (.inr (.inl ⟨rfl, h5, by simp [gotS, hg], by simp [gotE, hg]; omega, by simp [gotA, hg]⟩))
    · exact .inr (.inr (.inr ⟨rfl, h5, by simp [gotS, hg], by simp [gotE, hg]; omega, by simp [gotA, hg]⟩))
theorem find_tells {w : World} {g n : Nat} {l : List Nat} (h15 : ∀ i, nth l i ≤ 15) (hks : ksum l 16 ≤ 32768) (hl : l.length ≤ 320) (hn : n = l.length) (h : tabl w g n l) (N a left : Nat) :
    ∃ c d, tells l N a left c d ∧ ∀ w', Below w.heap.size w w' → Calls Tryd.prog 101 #[.pointer (some ⟨g, 0, none⟩), .int .i64 (peekN N a 15)] w' fun e w'' => e = .returned (.agg #[.int .u16 c, .int .u16 d]) ∧ Below w'.heap.size w' w'' := by
  subst hn
  obtain ⟨base, F, v, bs, G, ht, hi⟩ := h
  exact ⟨_, _, tells_of h15 hks hl hi N a left, fun w' hb => find_any (ht.below hb) _ (peekN_lt N a 15) (fun h16 => (hi.lk _ (Nat.mod_lt _ (by omega)) h16).1)⟩
theorem chk_in {s : ByteArray} {a c : Nat} (hc : c ≤ 15) (h : c ≤ 8 * s.size - a) : chk s a (c : Int) = 0 := by
  unfold chk; rw [if_pos (by simp [cnt]; omega), if_neg (by omega)]
theorem chk_out {s : ByteArray} {a c : Nat} (hc : c ≤ 15) (h : 8 * s.size - a < c) : chk s a (c : Int) = 2 := by
  unfold chk; rw [if_pos (by simp [cnt]; omega), if_pos (by omega)]

set_option maxHeartbeats 1000000 in
set_option maxRecDepth 100000 in
theorem Read_any {w : World} {g n r : Nat} {l : List Nat} {s : ByteArray} {a : Nat} (h15 : ∀ i, nth l i ≤ 15) (hks : ksum l 16 ≤ 32768) (hl : l.length ≤ 320) (hn : n = l.length) (ht : tabl w g n l) (hr : rd w r s a) (hs : s.size ≤ 281474976710656) (ha : a ≤ 8 * s.size) :
    Calls Tryd.prog 86 #[.pointer (some ⟨g, 0, none⟩), .pointer (some ⟨r, 0, none⟩)] w fun e w' => e = .returned (.tuple #[.int .i64 (gotS l (num s.data.toList) a (8 * s.size - a)), .int .i64 (gotE l (num s.data.toList) a (8 * s.size - a))])
      ∧ rd w' r s (gotA l (num s.data.toList) a (8 * s.size - a)) ∧ tabl w' g n l ∧ Only (At r) w w' := by
  obtain ⟨c, d, te, hF⟩ := find_tells h15 hks hl hn ht (num s.data.toList) a (8 * s.size - a)
  have HF := Lib.hid hF
  have HN : Hid (Calls Tryd.prog 100 #[.pointer (some ⟨g, 0, none⟩)] w fun e w' => e = .returned (.bool false) ∧ w = w') := by
    obtain ⟨base, F, v, bs, G, hb, _⟩ := ht
    exact Lib.hid (pNone_any hb.c0)
  have HP : Hid (Calls Tryd.prog 69 #[.pointer (some ⟨r, 0, none⟩), .int .i64 15] w fun e w' => e = .returned (.int .i64 (peekN (num s.data.toList) a 15 : Nat)) ∧ rd w' r s a ∧ Below w.heap.size w w') := Lib.hid (by
    have := Peek_b 15 hr hs ha
    exact this)
  have HSk : Hid (∀ u, rd u r s a → Calls Tryd.prog 56 #[.pointer (some ⟨r, 0, none⟩), .int .i64 c] u fun e w' => e = .returned (.int .i64 (chk s a c)) ∧ rd w' r s (moved s a c) ∧ Only (At r) u w') := Lib.hid (fun u hu => Skip_any (c : Int) hu hs ha)
  have HLf : Hid (∀ u, rd u r s a → Calls Tryd.prog 102 #[.pointer (some ⟨r, 0, none⟩)] u fun e w' => e = .returned (.int .i64 ((8 * s.size - a : Nat) : Int)) ∧ rd w' r s a ∧ Below u.heap.size u w') := Lib.hid (fun u hu => (Left_any hu hs ha).mono (fun e w' ⟨he, k, hk⟩ => ⟨he, by rw [hk]; exact hu.draws k, by rw [hk]; exact below_draws u k⟩))
  have HT := Lib.hid ht
  have hrw := hr.lt
  have hc15 := te.c15
  have hd3 := te.d3
  have hw := te.ways
  obtain ⟨x, hx⟩ : ∃ x, x = peekN (num s.data.toList) a 15 := ⟨_, rfl⟩
  rw [← hx] at HF HP
  obtain ⟨left, hleft⟩ : ∃ left, left = 8 * s.size - a := ⟨_, rfl⟩
  have hlb : left ≤ 9000000000000000 := by omega
  rw [← hleft] at HLf hw ⊢
  have HLe := Lib.hid hleft
  obtain ⟨S, hS⟩ : ∃ S, S = gotS l (num s.data.toList) a left := ⟨_, rfl⟩
  obtain ⟨E, hE⟩ : ∃ E, E = gotE l (num s.data.toList) a left := ⟨_, rfl⟩
  obtain ⟨P, hP⟩ : ∃ P, P = gotA l (num s.data.toList) a left := ⟨_, rfl⟩
  rw [← hS, ← hE, ← hP] at hw
  rw [← hS, ← hE, ← hP]
  clear hS hE hP hleft hx te hF ht hr h15 hks hl hn
  rcases hw with ⟨h0, hle, rfl, rfl, hpa⟩ | ⟨h0, hle, rfl, rfl, hpa⟩ | ⟨rfl, hle, rfl, rfl, hpa⟩ | ⟨rfl, hle, rfl, rfl, hpa⟩ <;> rw [hpa] <;> clear hpa
  · have HK : Hid (chk s a c = 0 ∧ moved s a c = a + c) := Lib.hid (by
      have h1 := chk_in (s := s) (a := a) hc15 (by rw [← HLe.out]; exact hle)
      exact ⟨h1, by unfold moved; rw [if_pos h1]; simp⟩)
    rw [HK.out.1, HK.out.2] at HSk
    clear HK
    go_enter Tryd.func86, Tryd.ntmps86
    go_wp2_with fail
    refine HN.out.mono ?_
    rintro e w' ⟨rfl, rfl⟩
    go_wp2_with fail
    refine HP.out.mono ?_
    rintro e w1 ⟨rfl, r1, b1⟩
    have R1 := Lib.hid r1
    have B1 := Lib.hid b1
    clear r1 b1
    go_wp2_with fail
    refine (HF.out _ B1.out).mono ?_
    rintro e w2 ⟨rfl, b2⟩
    have R2 := Lib.hid (R1.out.below b2)
    have B2 := Lib.hid (grows B1.out b2)
    have hrl := R2.out.lt
    clear b2 R1 B1 HF HP HN
    go_wp2_with fail
    refine (HSk.out _ (R2.out.below (below_alloc _ _))).mono ?_
    rintro e w4 ⟨rfl, r4, o4⟩
    have X4 := ((Blk.fresh w2 124 #[.int .u16 c, .int .u16 d])).only o4 (fun e => by have e' : w2.heap.size = r := e; omega)
    have x0 := X4.cell 0
    have x1 := X4.cell 1
    have T4 := Lib.hid (tabl.apart (tabl.below HT.out (grows B2.out (below_alloc _ _))) (R2.out.below (below_alloc _ _)) (by decide) (by decide) (by decide) o4)
    have O4 := Lib.hid ((Only.of_below (S := At r) (grows B2.out (below_alloc _ _))).trans o4)
    have R4 := Lib.hid r4
    clear r4 o4 X4
    go_wp2
    go_ret2
    exact ⟨rfl, R4.out, T4.out, O4.out⟩
  · have HK : Hid (chk s a c = 2 ∧ moved s a c = a) := Lib.hid (by
      have h1 := chk_out (s := s) (a := a) hc15 (by rw [← HLe.out]; exact hle)
      exact ⟨h1, by unfold moved; rw [if_neg (by rw [h1]; decide)]⟩)
    rw [HK.out.1, HK.out.2] at HSk
    clear HK
    go_enter Tryd.func86, Tryd.ntmps86
    go_wp2_with fail
    refine HN.out.mono ?_
    rintro e w' ⟨rfl, rfl⟩
    go_wp2_with fail
    refine HP.out.mono ?_
    rintro e w1 ⟨rfl, r1, b1⟩
    have R1 := Lib.hid r1
    have B1 := Lib.hid b1
    clear r1 b1
    go_wp2_with fail
    refine (HF.out _ B1.out).mono ?_
    rintro e w2 ⟨rfl, b2⟩
    have R2 := Lib.hid (R1.out.below b2)
    have B2 := Lib.hid (grows B1.out b2)
    have hrl := R2.out.lt
    clear b2 R1 B1 HF HP HN
    go_wp2_with fail
    refine (HSk.out _ (R2.out.below (below_alloc _ _))).mono ?_
    rintro e w4 ⟨rfl, r4, o4⟩
    have X4 := ((Blk.fresh w2 124 #[.int .u16 c, .int .u16 d])).only o4 (fun e => by have e' : w2.heap.size = r := e; omega)
    have x0 := X4.cell 0
    have x1 := X4.cell 1
    have T4 := Lib.hid (tabl.apart (tabl.below HT.out (grows B2.out (below_alloc _ _))) (R2.out.below (below_alloc _ _)) (by decide) (by decide) (by decide) o4)
    have O4 := Lib.hid ((Only.of_below (S := At r) (grows B2.out (below_alloc _ _))).trans o4)
    have R4 := Lib.hid r4
    clear r4 o4 X4
    go_wp2
    go_ret2
    exact ⟨rfl, R4.out, T4.out, O4.out⟩
  · have HK : Hid (chk s a ((0 : Nat) : Int) = 0 ∧ moved s a ((0 : Nat) : Int) = a) := Lib.hid (by
      have h1 := chk_in (s := s) (a := a) (c := 0) (by omega) (by omega)
      exact ⟨h1, by unfold moved; rw [if_pos h1]; simp⟩)
    rw [HK.out.1, HK.out.2] at HSk
    clear HK
    go_enter Tryd.func86, Tryd.ntmps86
    go_wp2_with fail
    refine HN.out.mono ?_
    rintro e w' ⟨rfl, rfl⟩
    go_wp2_with fail
    refine HP.out.mono ?_
    rintro e w1 ⟨rfl, r1, b1⟩
    have R1 := Lib.hid r1
    have B1 := Lib.hid b1
    clear r1 b1
    go_wp2_with fail
    refine (HF.out _ B1.out).mono ?_
    rintro e w2 ⟨rfl, b2⟩
    have R2 := Lib.hid (R1.out.below b2)
    have B2 := Lib.hid (grows B1.out b2)
    have hrl := R2.out.lt
    clear b2 R1 B1 HF HP HN
    go_wp2_with fail
    refine (HSk.out _ (R2.out.below (below_alloc _ _))).mono ?_
    rintro e w4 ⟨rfl, r4, o4⟩
    have X4 := ((Blk.fresh w2 124 #[.int .u16 0, .int .u16 d])).only o4 (fun e => by have e' : w2.heap.size = r := e; omega)
    have x0 := X4.cell 0
    have x1 := X4.cell 1
    have T4 := Lib.hid (tabl.apart (tabl.below HT.out (grows B2.out (below_alloc _ _))) (R2.out.below (below_alloc _ _)) (by decide) (by decide) (by decide) o4)
    have O4 := Lib.hid ((Only.of_below (S := At r) (grows B2.out (below_alloc _ _))).trans o4)
    have R4 := Lib.hid r4
    clear r4 o4 X4
    go_wp2_with fail
    refine (HLf.out _ R4.out).mono ?_
    rintro e w5 ⟨rfl, r5, b5⟩
    go_wp2
    go_ret2
    exact ⟨rfl, r5, tabl.below T4.out b5, O4.out.trans (Only.of_below b5)⟩
  · have HK : Hid (chk s a ((0 : Nat) : Int) = 0 ∧ moved s a ((0 : Nat) : Int) = a) := Lib.hid (by
      have h1 := chk_in (s := s) (a := a) (c := 0) (by omega) (by omega)
      exact ⟨h1, by unfold moved; rw [if_pos h1]; simp⟩)
    rw [HK.out.1, HK.out.2] at HSk
    clear HK
    go_enter Tryd.func86, Tryd.ntmps86
    go_wp2_with fail
    refine HN.out.mono ?_
    rintro e w' ⟨rfl, rfl⟩
    go_wp2_with fail
    refine HP.out.mono ?_
    rintro e w1 ⟨rfl, r1, b1⟩
    have R1 := Lib.hid r1
    have B1 := Lib.hid b1
    clear r1 b1
    go_wp2_with fail
    refine (HF.out _ B1.out).mono ?_
    rintro e w2 ⟨rfl, b2⟩
    have R2 := Lib.hid (R1.out.below b2)
    have B2 := Lib.hid (grows B1.out b2)
    have hrl := R2.out.lt
    clear b2 R1 B1 HF HP HN
    go_wp2_with fail
    refine (HSk.out _ (R2.out.below (below_alloc _ _))).mono ?_
    rintro e w4 ⟨rfl, r4, o4⟩
    have X4 := ((Blk.fresh w2 124 #[.int .u16 0, .int .u16 d])).only o4 (fun e => by have e' : w2.heap.size = r := e; omega)
    have x0 := X4.cell 0
    have x1 := X4.cell 1
    have T4 := Lib.hid (tabl.apart (tabl.below HT.out (grows B2.out (below_alloc _ _))) (R2.out.below (below_alloc _ _)) (by decide) (by decide) (by decide) o4)
    have O4 := Lib.hid ((Only.of_below (S := At r) (grows B2.out (below_alloc _ _))).trans o4)
    have R4 := Lib.hid r4
    clear r4 o4 X4
    go_wp2_with fail
    refine (HLf.out _ R4.out).mono ?_
    rintro e w5 ⟨rfl, r5, b5⟩
    go_wp2
    go_ret2
    exact ⟨rfl, r5, tabl.below T4.out b5, O4.out.trans (Only.of_below b5)⟩
end Go.Proofs.YtgbdecnaamlekaaDoor.Ph
