/-
  New: no table and what is wrong, or a table of the codes of these lengths.
  Read, called with a table that New made and a reader that bitrow made: the symbol, and where the reader stands.
  prefix's Read and Write where there is no table, no reader or no writer: they answer ErrNil; nothing that was there has changed.
  Conditions: as each theorem says.
-/
import Derived.Test.YtnkninjdpgpkmaaGreatDoorBbg
import Derived.Test.YtnkninjdpgpkmaaGreatDoorBbf
import Derived.Test.YtnkninjdpgpkmaaGreatDoorBaf
import Derived.Great.BuildSlice
import Derived.Test.YtnkninjdpgpkmaaGreatDoorBay
namespace Go.Proofs.YtnkninjdpgpkmaaGreatDoor.Pg
open Go.RowKit Go.Proofs.YtnkninjdpgpkmaaGreatDoor.Vm Go.Proofs.YtnkninjdpgpkmaaGreatDoor.Bm Go.Proofs.YtnkninjdpgpkmaaGreatDoor.Bt Go.Proofs.YtnkninjdpgpkmaaGreatDoor.Bw Go.Proofs.YtnkninjdpgpkmaaGreatDoor.Br Go.Proofs.YtnkninjdpgpkmaaGreatDoor.Bs Go.Proofs.YtnkninjdpgpkmaaGreatDoor.Na Go.Proofs.YtnkninjdpgpkmaaGreatDoor.Nm Go.Proofs.YtnkninjdpgpkmaaGreatDoor.Nw Go.Proofs.YtnkninjdpgpkmaaGreatDoor.Ni Go.Proofs.YtnkninjdpgpkmaaGreatDoor.Nc Go.Proofs.YtnkninjdpgpkmaaGreatDoor.Nd Go.Proofs.YtnkninjdpgpkmaaGreatDoor.Ne Go.Proofs.YtnkninjdpgpkmaaGreatDoor.Nf Go.Proofs.YtnkninjdpgpkmaaGreatDoor.Pm Go.Proofs.YtnkninjdpgpkmaaGreatDoor.Pt Go.Proofs.YtnkninjdpgpkmaaGreatDoor.Pc Go.Proofs.YtnkninjdpgpkmaaGreatDoor.Pd Go.Proofs.YtnkninjdpgpkmaaGreatDoor.Pe Go.Proofs.YtnkninjdpgpkmaaGreatDoor.Pf Go.Proofs.YtnkninjdpgpkmaaGreatDoor.Py

set_option maxRecDepth 100000 in
theorem New_no {A : Option Addr} {n cap : Nat} {f : Nat → Int} (hn : n ≤ 9223372036854775807) (he : err n f ≠ 0) {w : World} (HC : Hid (row w A n f)) :
    Calls Tryz.prog 97 #[.slice A n cap] w fun e w' => e = .returned (.tuple #[.pointer none, .int .i64 (err n f)]) ∧ Below w.heap.size w w' := by
  have HU := Lib.hid (Codes_no (cap := cap) hn he HC)
  obtain ⟨e, hee⟩ : ∃ e, e = err n f := ⟨_, rfl⟩
  rw [← hee] at HU he ⊢
  clear hee HC
  go_enter Tryz.func97, Tryz.ntmps97
  go_wp2_with fail
  refine HU.out.mono ?_
  rintro e w' ⟨rfl, b1⟩
  go_wp2
  go_ret2
  exact ⟨rfl, b1⟩

/-- A table of the first k lengths. -/
def part (base : Nat) (w : World) (g n : Nat) (l : List Nat) (k : Nat) : Prop := ∃ F v bs G, tb base w g n F v bs G ∧ inv l k bs.length none F G
theorem add_any {base : Nat} {w : World} {g n : Nat} {l : List Nat} {k : Nat} (h15 : ∀ i, nth l i ≤ 15) (hks : ksum l 16 ≤ 32768) (hkl : k < l.length) (hl : l.length ≤ 320) (h0 : 0 < nth l k) (h : part base w g n l k) :
    Calls Tryz.prog 131 #[.pointer (some ⟨g, 0, none⟩), .int .i64 k, .int .i64 (code l k), .int .i64 (nth l k)] w fun e w' => e = .returned (.tuple #[]) ∧ part base w' g n l (k + 1) ∧ Below base w w' := by
  obtain ⟨F, v, bs, G, ht, hi⟩ := h
  have hT := turn_code (l := l) (k := k) (h15 k) (code_lt hkl (h15 k) hks)
  by_cases h9 : nth l k ≤ 9
  · refine (add_short ht (by omega) h9 hT (tc_lt l k)).mono ?_
    rintro e w' ⟨rfl, t', b'⟩
    exact ⟨rfl, ⟨_, v, bs, G, t', inv_short h15 hks hkl h0 h9 hi⟩, b'⟩
  · refine (add_long h15 hks hkl hl (by omega) ht hi hT).mono ?_
    rintro e w' ⟨rfl, F', v', bs', G', t', i', b'⟩
    exact ⟨rfl, ⟨F', v', bs', G', t', i'⟩, b'⟩
theorem part_zero (w : World) (n : Nat) (l : List Nat) : part w.heap.size (w.alloc (.cells (tcells (.pointer (some ⟨w.heap.size, 0, none⟩)) n (fun _ => (0, 0)) (.slice none 0 0)) 190)) w.heap.size n l 0 :=
  ⟨fun _ => (0, 0), .slice none 0 0, [], fun _ _ => (0, 0), ⟨Blk.fresh w _ _, World.ownsRow_nil _ _ _ _, fun i hi => absurd hi (by simp), fun i j hi => absurd hi (by simp), fun i hi => absurd hi (by simp), Nat.le_refl _⟩, inv_zero l _⟩
theorem part_skip {base : Nat} {w : World} {g n : Nat} {l : List Nat} {k : Nat} (h : part base w g n l k) (h0 : nth l k = 0) : part base w g n l (k + 1) := by
  obtain ⟨F, v, bs, G, ht, hi⟩ := h
  exact ⟨F, v, bs, G, ht, inv_skip hi h0⟩

/-- A table of these lengths lies at block g. -/
def tabl (w : World) (g n : Nat) (l : List Nat) : Prop := ∃ base, part base w g n l n

set_option maxHeartbeats 1000000 in
set_option maxRecDepth 100000 in
theorem New_ok {A : Option Addr} {n cap : Nat} {f : Nat → Int} (he : err n f = 0) {w : World} (HC : Hid (row w A n f)) :
    Calls Tryz.prog 97 #[.slice A n cap] w fun e w' => ∃ g, e = .returned (.tuple #[.pointer (some ⟨g, 0, none⟩), .int .i64 0]) ∧ tabl w' g n (L n f) ∧ w.heap.size ≤ g ∧ Below w.heap.size w w' := by
  obtain ⟨h1, h2, h3⟩ := err_zero he
  have HO := Lib.hid (Codes_ok (cap := cap) he HC)
  have HR := Lib.hid (L_row h2 HC.out)
  have H15 := Lib.hid (L_le h2)
  obtain ⟨l, hl⟩ : ∃ l, l = L n f := ⟨_, rfl⟩
  have hln : Hid (l.length = n) := Lib.hid (by rw [hl, L_length])
  rw [← hl] at HO HR H15 h3 ⊢
  have H3 := Lib.hid h3
  have hbu := built n
  obtain ⟨T, hT⟩ : ∃ T, T = tcells (.pointer none) n (fun _ => (0, 0)) (.slice none 0 0) := ⟨_, rfl⟩
  rw [← hT] at hbu
  have HBu := Lib.hid hbu
  have t0 : T[0]? = some (.pointer none) := by rw [hT]; exact t_c0 _ _ _ _
  clear hbu
  have HT := Lib.hid hT
  clear hl h2 h3 he HC hT
  go_enter Tryz.func97, Tryz.ntmps97
  go_wp2_with fail
  refine HO.out.mono ?_
  rintro e w1 ⟨gc, rfl, hg, hgc, hb1⟩
  have B1 := Lib.hid hb1
  have G1 := Lib.hid hg
  clear hb1 hg HO
  go_wp2_with (refine wpList_buildTo rfl 190 #[(1, .tmp 18)] rfl (some 19) rfl T ?hbb ?_)
  case hbb => exact HBu.out
  obtain ⟨w2, hw2⟩ : ∃ w2, w2 = w1.alloc (.cells (T.setIfInBounds 0 (.pointer (some ⟨w1.heap.size, 0, none⟩))) 190) := ⟨_, rfl⟩
  have P2 : Hid (part w1.heap.size w2 w1.heap.size n l 0) := Lib.hid (by rw [hw2, HT.out, t_set0]; exact part_zero w1 n l)
  have B2 : Hid (Below w1.heap.size w1 w2) := Lib.hid (by rw [hw2]; exact below_alloc _ _)
  rw [← hw2]
  have HG := Lib.hid (show w.heap.size ≤ w1.heap.size from B1.out.size)
  clear hw2 t0 HBu HT
  obtain ⟨g, hg⟩ : ∃ g, g = w1.heap.size := ⟨_, rfl⟩
  have HGe := Lib.hid hg
  rw [← hg] at P2 HG ⊢
  clear hg
  go_loopw [27] (fun z wr => ∃ k : Nat, z = .int .i64 k ∧ k ≤ n ∧ Hid (part g wr g n l k) ∧ Hid (Below w1.heap.size w1 wr)) (fun z _ => n - (intOf z).toNat)
  case atStart => exact ⟨0, rfl, by omega, P2, B2⟩
  case round =>
    obtain ⟨k, rfl, hk, P3, B3⟩ := hrel
    clear P2 B2
    by_cases hkn : k < n
    · have hkl : Hid (k < l.length) := Lib.hid (by rw [hln.out]; exact hkn)
      obtain ⟨b, off, rfl, hbl, hx0⟩ := HR.out.get (k := k) hkl.out
      have kx := (B3.out.cell (p := ⟨b, off + k, none⟩) (Nat.lt_of_lt_of_le hbl B1.out.size)).trans ((B1.out.cell (p := ⟨b, off + k, none⟩) hbl).trans hx0)
      have ci := ((G1.out.below B3.out).cell k).trans (arr_get _ hkn)
      have HA := fun h0 : 0 < nth l k => Lib.hid (add_any H15.out H3.out hkl.out (by rw [hln.out]; exact h1) h0 P3.out)
      have HS := fun h0 : nth l k = 0 => Lib.hid (part_skip P3.out h0)
      have hx15 := H15.out k
      obtain ⟨x, hx⟩ : ∃ x, x = nth l k := ⟨_, rfl⟩
      obtain ⟨c, hc⟩ : ∃ c, c = code l k := ⟨_, rfl⟩
      rw [← hx] at kx HA HS hx15
      rw [← hc] at ci HA
      clear hx hc hx0
      rcases Nat.eq_zero_or_pos x with rfl | h0
      · have P4 := HS rfl
        clear HA HS
        go_wp2
        go_roundw
        case rel => exact ⟨k + 1, by go_num, by omega, P4, B3⟩
        case measure => simp [intOf]; omega
      · have A4 := HA h0
        clear HA HS
        go_wp2_with fail
        refine A4.out.mono ?_
        rintro e w4 ⟨rfl, p4, b4⟩
        have P4 := Lib.hid p4
        have B4 : Hid (Below w1.heap.size w1 w4) := Lib.hid (B3.out.trans (by rw [← HGe.out]; exact b4))
        clear p4 b4
        go_wp2
        go_roundw
        case rel => exact ⟨k + 1, by go_num, by omega, P4, B4⟩
        case measure => simp [intOf]; omega
    · have hk8 := Lib.hid (show k = n by omega)
      go_wp2
      go_ret2
      exact ⟨g, rfl, ⟨g, by have h := P3.out; rw [hk8.out] at h; exact h⟩, HG.out, grows B1.out B3.out⟩
end Go.Proofs.YtnkninjdpgpkmaaGreatDoor.Pg
namespace Go.Proofs.YtnkninjdpgpkmaaGreatDoor.Ph
open Go.RowKit Go.Proofs.YtnkninjdpgpkmaaGreatDoor.Vm Go.Proofs.YtnkninjdpgpkmaaGreatDoor.Bm Go.Proofs.YtnkninjdpgpkmaaGreatDoor.Bt Go.Proofs.YtnkninjdpgpkmaaGreatDoor.Bw Go.Proofs.YtnkninjdpgpkmaaGreatDoor.Br Go.Proofs.YtnkninjdpgpkmaaGreatDoor.Bp Go.Proofs.YtnkninjdpgpkmaaGreatDoor.Bs Go.Proofs.YtnkninjdpgpkmaaGreatDoor.Na Go.Proofs.YtnkninjdpgpkmaaGreatDoor.Nm Go.Proofs.YtnkninjdpgpkmaaGreatDoor.Nw Go.Proofs.YtnkninjdpgpkmaaGreatDoor.Pm Go.Proofs.YtnkninjdpgpkmaaGreatDoor.Pt Go.Proofs.YtnkninjdpgpkmaaGreatDoor.Pc Go.Proofs.YtnkninjdpgpkmaaGreatDoor.Pd Go.Proofs.YtnkninjdpgpkmaaGreatDoor.Pe Go.Proofs.YtnkninjdpgpkmaaGreatDoor.Pf Go.Proofs.YtnkninjdpgpkmaaGreatDoor.Pg

theorem tabl.below {w w' : World} {g n : Nat} {l : List Nat} (h : tabl w g n l) (k : Below w.heap.size w w') : tabl w' g n l := by
  obtain ⟨base, F, v, bs, G, ht, hi⟩ := h
  exact ⟨base, F, v, bs, G, ht.below k, hi⟩
theorem tabl.apart {w w' : World} {g n r : Nat} {l : List Nat} {t : TypeId} {cs : Array Value} (h : tabl w g n l) (hr : Blk w r t cs) (h1 : t ≠ 190) (h2 : t ≠ 214) (h3 : t ≠ 186) (k : Only (At r) w w') : tabl w' g n l := by
  obtain ⟨base, F, v, bs, G, ht, hi⟩ := h
  exact ⟨base, F, v, bs, G, ht.apart hr h1 h2 h3 k, hi⟩
/-- What find tells, and what comes of it. -/
structure tells (l : List Nat) (N a left c d : Nat) : Prop where
  c15 : c ≤ 15
  d3 : d < 320
  ways : (0 < c ∧ c ≤ left ∧ gotS l N a left = (d : Int) ∧ gotE l N a left = 0 ∧ gotA l N a left = a + c) ∨ (0 < c ∧ left < c ∧ gotS l N a left = 0 ∧ gotE l N a left = 2 ∧ gotA l N a left = a)
    ∨ (c = 0 ∧ left < 15 ∧ gotS l N a left = 0 ∧ gotE l N a left = 2 ∧ gotA l N a left = a) ∨ (c = 0 ∧ ¬ left < 15 ∧ gotS l N a left = 0 ∧ gotE l N a left = 9 ∧ gotA l N a left = a)
theorem tells_of {l : List Nat} {m : Nat} {F : Nat → Nat × Nat} {G : Nat → Nat → Nat × Nat} (h15 : ∀ i, nth l i ≤ 15) (hks : ksum l 16 ≤ 32768) (hl : l.length ≤ 320) (h : inv l l.length m none F G) (N a left : Nat) : tells l N a left (lkp F G (peekN N a 15)).1 (lkp F G (peekN N a 15)).2 := by
  rcases h.sp (peekN N a 15) (peekN_lt N a 15) with ⟨s, hs, ha, e⟩ | ⟨hn, e⟩
  · have hr := (reads_At h15 hks hs N a).2 ha
    rw [e]
    refine ⟨h15 s, by show s < 320; omega, ?_⟩
    by_cases hle : nth l s ≤ left
    · have hg := got_some h15 hs hr hle
      exact .inl ⟨ha.1, hle, by simp [gotS, hg], by simp [gotE, hg], by simp [gotA, hg]⟩
    · have hg : got l N a left = none := got_none (fun i hi hri => by rw [reads_one h15 hi hs hri hr]; exact hle)
      have h5 := h15 s
      exact .inr (.inl ⟨ha.1, by show left < nth l s; omega, by simp [gotS, hg], by simp [gotE, hg]; omega, by simp [gotA, hg]⟩)
  · have hg : got l N a left = none := got_none (fun i hi hri => absurd ((reads_At h15 hks hi N a).1 hri) (hn i hi))
    rw [e]
    refine ⟨by show 0 ≤ 15; omega, by show 0 < 320; omega, ?_⟩
    by_cases h5 : left < 15
    · exact .inr (.inr (.inl ⟨rfl, h5, by simp [gotS, hg], by simp [gotE, hg]; omega, by simp [gotA, hg]⟩))
    · exact .inr (.inr (.inr ⟨rfl, h5, by simp [gotS, hg], by simp [gotE, hg]; omega, by simp [gotA, hg]⟩))
theorem find_tells {w : World} {g n : Nat} {l : List Nat} (h15 : ∀ i, nth l i ≤ 15) (hks : ksum l 16 ≤ 32768) (hl : l.length ≤ 320) (hn : n = l.length) (h : tabl w g n l) (N a left : Nat) :
    ∃ c d, tells l N a left c d ∧ ∀ w', Below w.heap.size w w' → Calls Tryz.prog 159 #[.pointer (some ⟨g, 0, none⟩), .int .i64 (peekN N a 15)] w' fun e w'' => e = .returned (.agg #[.int .u16 c, .int .u16 d]) ∧ Below w'.heap.size w' w'' := by
  subst hn
  obtain ⟨base, F, v, bs, G, ht, hi⟩ := h
  exact ⟨_, _, tells_of h15 hks hl hi N a left, fun w' hb => find_any (ht.below hb) _ (peekN_lt N a 15) (fun h16 => (hi.lk _ (Nat.mod_lt _ (by omega)) h16).1)⟩
theorem chk_in {s : ByteArray} {a c : Nat} (hc : c ≤ 15) (h : c ≤ 8 * s.size - a) : chk s a (c : Int) = 0 := by
  unfold chk; rw [if_pos (by simp [cnt]; omega), if_neg (by omega)]
theorem chk_out {s : ByteArray} {a c : Nat} (hc : c ≤ 15) (h : 8 * s.size - a < c) : chk s a (c : Int) = 2 := by
  unfold chk; rw [if_pos (by simp [cnt]; omega), if_pos (by omega)]

set_option maxHeartbeats 1000000 in
set_option maxRecDepth 100000 in
theorem Read_any {w : World} {g n r : Nat} {l : List Nat} {s : ByteArray} {a : Nat} (h15 : ∀ i, nth l i ≤ 15) (hks : ksum l 16 ≤ 32768) (hl : l.length ≤ 320) (hn : n = l.length) (ht : tabl w g n l) (hr : rd w r s a) (hs : s.size ≤ 281474976710656) (ha : a ≤ 8 * s.size) :
    Calls Tryz.prog 132 #[.pointer (some ⟨g, 0, none⟩), .pointer (some ⟨r, 0, none⟩)] w fun e w' => e = .returned (.tuple #[.int .i64 (gotS l (num s.data.toList) a (8 * s.size - a)), .int .i64 (gotE l (num s.data.toList) a (8 * s.size - a))])
      ∧ rd w' r s (gotA l (num s.data.toList) a (8 * s.size - a)) ∧ tabl w' g n l ∧ Only (At r) w w' := by
  obtain ⟨c, d, te, hF⟩ := find_tells h15 hks hl hn ht (num s.data.toList) a (8 * s.size - a)
  have HF := Lib.hid hF
  have HN : Hid (Calls Tryz.prog 158 #[.pointer (some ⟨g, 0, none⟩)] w fun e w' => e = .returned (.bool false) ∧ w = w') := by
    obtain ⟨base, F, v, bs, G, hb, _⟩ := ht
    exact Lib.hid (pNone_any hb.c0)
  have HP : Hid (Calls Tryz.prog 160 #[.pointer (some ⟨r, 0, none⟩), .int .i64 15] w fun e w' => e = .returned (.int .i64 (peekN (num s.data.toList) a 15 : Nat)) ∧ rd w' r s a ∧ Below w.heap.size w w') := Lib.hid (by
    have := Peek_b 15 hr hs ha
    exact this)
  have HSk : Hid (∀ u, rd u r s a → Calls Tryz.prog 149 #[.pointer (some ⟨r, 0, none⟩), .int .i64 c] u fun e w' => e = .returned (.int .i64 (chk s a c)) ∧ rd w' r s (moved s a c) ∧ Only (At r) u w') := Lib.hid (fun u hu => Skip_any (c : Int) hu hs ha)
  have HLf : Hid (∀ u, rd u r s a → Calls Tryz.prog 127 #[.pointer (some ⟨r, 0, none⟩)] u fun e w' => e = .returned (.int .i64 ((8 * s.size - a : Nat) : Int)) ∧ rd w' r s a ∧ Below u.heap.size u w') := Lib.hid (fun u hu => (Left_any hu hs ha).mono (fun e w' ⟨he, k, hk⟩ => ⟨he, by rw [hk]; exact hu.draws k, by rw [hk]; exact below_draws u k⟩))
  have HT := Lib.hid ht
  have hrw := hr.lt
  have hc15 := te.c15
  have hd3 := te.d3
  have hw := te.ways
  obtain ⟨x, hx⟩ : ∃ x, x = peekN (num s.data.toList) a 15 := ⟨_, rfl⟩
  rw [← hx] at HF HP
  obtain ⟨left, hleft⟩ : ∃ left, left = 8 * s.size - a := ⟨_, rfl⟩
  have hlb : left ≤ 9000000000000000 := by omega
  rw [← hleft] at HLf hw ⊢
  have HLe := Lib.hid hleft
  obtain ⟨S, hS⟩ : ∃ S, S = gotS l (num s.data.toList) a left := ⟨_, rfl⟩
  obtain ⟨E, hE⟩ : ∃ E, E = gotE l (num s.data.toList) a left := ⟨_, rfl⟩
  obtain ⟨P, hP⟩ : ∃ P, P = gotA l (num s.data.toList) a left := ⟨_, rfl⟩
  rw [← hS, ← hE, ← hP] at hw
  rw [← hS, ← hE, ← hP]
  clear hS hE hP hleft hx te hF ht hr h15 hks hl hn
  rcases hw with ⟨h0, hle, rfl, rfl, hpa⟩ | ⟨h0, hle, rfl, rfl, hpa⟩ | ⟨rfl, hle, rfl, rfl, hpa⟩ | ⟨rfl, hle, rfl, rfl, hpa⟩ <;> rw [hpa] <;> clear hpa
  · have HK : Hid (chk s a c = 0 ∧ moved s a c = a + c) := Lib.hid (by
      have h1 := chk_in (s := s) (a := a) hc15 (by rw [← HLe.out]; exact hle)
      exact ⟨h1, by unfold moved; rw [if_pos h1]; simp⟩)
    rw [HK.out.1, HK.out.2] at HSk
    clear HK
    go_enter Tryz.func132, Tryz.ntmps132
    go_wp2_with fail
    refine HN.out.mono ?_
    rintro e w' ⟨rfl, rfl⟩
    go_wp2_with fail
    refine HP.out.mono ?_
    rintro e w1 ⟨rfl, r1, b1⟩
    have R1 := Lib.hid r1
    have B1 := Lib.hid b1
    clear r1 b1
    go_wp2_with fail
    refine (HF.out _ B1.out).mono ?_
    rintro e w2 ⟨rfl, b2⟩
    have R2 := Lib.hid (R1.out.below b2)
    have B2 := Lib.hid (grows B1.out b2)
    have hrl := R2.out.lt
    clear b2 R1 B1 HF HP HN
    go_wp2_with fail
    refine (HSk.out _ (R2.out.below (below_alloc _ _))).mono ?_
    rintro e w4 ⟨rfl, r4, o4⟩
    have X4 := ((Blk.fresh w2 186 #[.int .u16 c, .int .u16 d])).only o4 (fun e => by have e' : w2.heap.size = r := e; omega)
    have x0 := X4.cell 0
    have x1 := X4.cell 1
    have T4 := Lib.hid (tabl.apart (tabl.below HT.out (grows B2.out (below_alloc _ _))) (R2.out.below (below_alloc _ _)) (by decide) (by decide) (by decide) o4)
    have O4 := Lib.hid ((Only.of_below (S := At r) (grows B2.out (below_alloc _ _))).trans o4)
    have R4 := Lib.hid r4
    clear r4 o4 X4
    go_wp2
    go_ret2
    exact ⟨rfl, R4.out, T4.out, O4.out⟩
  · have HK : Hid (chk s a c = 2 ∧ moved s a c = a) := Lib.hid (by
      have h1 := chk_out (s := s) (a := a) hc15 (by rw [← HLe.out]; exact hle)
      exact ⟨h1, by unfold moved; rw [if_neg (by rw [h1]; decide)]⟩)
    rw [HK.out.1, HK.out.2] at HSk
    clear HK
    go_enter Tryz.func132, Tryz.ntmps132
    go_wp2_with fail
    refine HN.out.mono ?_
    rintro e w' ⟨rfl, rfl⟩
    go_wp2_with fail
    refine HP.out.mono ?_
    rintro e w1 ⟨rfl, r1, b1⟩
    have R1 := Lib.hid r1
    have B1 := Lib.hid b1
    clear r1 b1
    go_wp2_with fail
    refine (HF.out _ B1.out).mono ?_
    rintro e w2 ⟨rfl, b2⟩
    have R2 := Lib.hid (R1.out.below b2)
    have B2 := Lib.hid (grows B1.out b2)
    have hrl := R2.out.lt
    clear b2 R1 B1 HF HP HN
    go_wp2_with fail
    refine (HSk.out _ (R2.out.below (below_alloc _ _))).mono ?_
    rintro e w4 ⟨rfl, r4, o4⟩
    have X4 := ((Blk.fresh w2 186 #[.int .u16 c, .int .u16 d])).only o4 (fun e => by have e' : w2.heap.size = r := e; omega)
    have x0 := X4.cell 0
    have x1 := X4.cell 1
    have T4 := Lib.hid (tabl.apart (tabl.below HT.out (grows B2.out (below_alloc _ _))) (R2.out.below (below_alloc _ _)) (by decide) (by decide) (by decide) o4)
    have O4 := Lib.hid ((Only.of_below (S := At r) (grows B2.out (below_alloc _ _))).trans o4)
    have R4 := Lib.hid r4
    clear r4 o4 X4
    go_wp2
    go_ret2
    exact ⟨rfl, R4.out, T4.out, O4.out⟩
  · have HK : Hid (chk s a ((0 : Nat) : Int) = 0 ∧ moved s a ((0 : Nat) : Int) = a) := Lib.hid (by
      have h1 := chk_in (s := s) (a := a) (c := 0) (by omega) (by omega)
      exact ⟨h1, by unfold moved; rw [if_pos h1]; simp⟩)
    rw [HK.out.1, HK.out.2] at HSk
    clear HK
    go_enter Tryz.func132, Tryz.ntmps132
    go_wp2_with fail
    refine HN.out.mono ?_
    rintro e w' ⟨rfl, rfl⟩
    go_wp2_with fail
    refine HP.out.mono ?_
    rintro e w1 ⟨rfl, r1, b1⟩
    have R1 := Lib.hid r1
    have B1 := Lib.hid b1
    clear r1 b1
    go_wp2_with fail
    refine (HF.out _ B1.out).mono ?_
    rintro e w2 ⟨rfl, b2⟩
    have R2 := Lib.hid (R1.out.below b2)
    have B2 := Lib.hid (grows B1.out b2)
    have hrl := R2.out.lt
    clear b2 R1 B1 HF HP HN
    go_wp2_with fail
    refine (HSk.out _ (R2.out.below (below_alloc _ _))).mono ?_
    rintro e w4 ⟨rfl, r4, o4⟩
    have X4 := ((Blk.fresh w2 186 #[.int .u16 0, .int .u16 d])).only o4 (fun e => by have e' : w2.heap.size = r := e; omega)
    have x0 := X4.cell 0
    have x1 := X4.cell 1
    have T4 := Lib.hid (tabl.apart (tabl.below HT.out (grows B2.out (below_alloc _ _))) (R2.out.below (below_alloc _ _)) (by decide) (by decide) (by decide) o4)
    have O4 := Lib.hid ((Only.of_below (S := At r) (grows B2.out (below_alloc _ _))).trans o4)
    have R4 := Lib.hid r4
    clear r4 o4 X4
    go_wp2_with fail
    refine (HLf.out _ R4.out).mono ?_
    rintro e w5 ⟨rfl, r5, b5⟩
    go_wp2
    go_ret2
    exact ⟨rfl, r5, tabl.below T4.out b5, O4.out.trans (Only.of_below b5)⟩
  · have HK : Hid (chk s a ((0 : Nat) : Int) = 0 ∧ moved s a ((0 : Nat) : Int) = a) := Lib.hid (by
      have h1 := chk_in (s := s) (a := a) (c := 0) (by omega) (by omega)
      exact ⟨h1, by unfold moved; rw [if_pos h1]; simp⟩)
    rw [HK.out.1, HK.out.2] at HSk
    clear HK
    go_enter Tryz.func132, Tryz.ntmps132
    go_wp2_with fail
    refine HN.out.mono ?_
    rintro e w' ⟨rfl, rfl⟩
    go_wp2_with fail
    refine HP.out.mono ?_
    rintro e w1 ⟨rfl, r1, b1⟩
    have R1 := Lib.hid r1
    have B1 := Lib.hid b1
    clear r1 b1
    go_wp2_with fail
    refine (HF.out _ B1.out).mono ?_
    rintro e w2 ⟨rfl, b2⟩
    have R2 := Lib.hid (R1.out.below b2)
    have B2 := Lib.hid (grows B1.out b2)
    have hrl := R2.out.lt
    clear b2 R1 B1 HF HP HN
    go_wp2_with fail
    refine (HSk.out _ (R2.out.below (below_alloc _ _))).mono ?_
    rintro e w4 ⟨rfl, r4, o4⟩
    have X4 := ((Blk.fresh w2 186 #[.int .u16 0, .int .u16 d])).only o4 (fun e => by have e' : w2.heap.size = r := e; omega)
    have x0 := X4.cell 0
    have x1 := X4.cell 1
    have T4 := Lib.hid (tabl.apart (tabl.below HT.out (grows B2.out (below_alloc _ _))) (R2.out.below (below_alloc _ _)) (by decide) (by decide) (by decide) o4)
    have O4 := Lib.hid ((Only.of_below (S := At r) (grows B2.out (below_alloc _ _))).trans o4)
    have R4 := Lib.hid r4
    clear r4 o4 X4
    go_wp2_with fail
    refine (HLf.out _ R4.out).mono ?_
    rintro e w5 ⟨rfl, r5, b5⟩
    go_wp2
    go_ret2
    exact ⟨rfl, r5, tabl.below T4.out b5, O4.out.trans (Only.of_below b5)⟩
end Go.Proofs.YtnkninjdpgpkmaaGreatDoor.Ph
namespace Go.Proofs.YtnkninjdpgpkmaaGreatDoor.Pn
open Go.RowKit Go.Proofs.YtnkninjdpgpkmaaGreatDoor.Vm Go.Proofs.YtnkninjdpgpkmaaGreatDoor.Bm Go.Proofs.YtnkninjdpgpkmaaGreatDoor.Bt Go.Proofs.YtnkninjdpgpkmaaGreatDoor.Bw Go.Proofs.YtnkninjdpgpkmaaGreatDoor.Br Go.Proofs.YtnkninjdpgpkmaaGreatDoor.Bp Go.Proofs.YtnkninjdpgpkmaaGreatDoor.Bs Go.Proofs.YtnkninjdpgpkmaaGreatDoor.Bn Go.Proofs.YtnkninjdpgpkmaaGreatDoor.Na Go.Proofs.YtnkninjdpgpkmaaGreatDoor.Nm Go.Proofs.YtnkninjdpgpkmaaGreatDoor.Nw Go.Proofs.YtnkninjdpgpkmaaGreatDoor.Pm Go.Proofs.YtnkninjdpgpkmaaGreatDoor.Pd Go.Proofs.YtnkninjdpgpkmaaGreatDoor.Pg Go.Proofs.YtnkninjdpgpkmaaGreatDoor.Ph

/-- A reader that is not there, or that bitrow did not make. -/
def noR (p : Option Addr) (w : World) : Prop := Calls Tryz.prog 69 #[.pointer p] w fun e w' => e = .returned (.bool true) ∧ w = w'
theorem noR_nil (w : World) : noR none w := isNone_nil w
theorem noR_zero {w : World} {g : Nat} (c0 : w.cell? ⟨g, 0, none⟩ = some (.pointer none)) : noR (some ⟨g, 0, none⟩) w := by
  have he := run_neq_nil (P := Tryz.prog) w ⟨g, 0, none⟩ Tryz.underlying57
  unfold noR
  go_enter Tryz.func69, Tryz.ntmps69
  go_wp2
  go_ret
  exact ⟨rfl, rfl⟩
theorem check_none {p : Option Addr} {w : World} (n : Int) (h : noR p w) : Calls Tryz.prog 176 #[.pointer p, .int .i64 n] w fun e w' => e = .returned (.int .i64 25) ∧ w = w' := by
  go_enter Tryz.func176, Tryz.ntmps176
  go_wp2_with (go_at_call 69; refine (h).mono ?_; rintro e w' ⟨rfl, rfl⟩)
  go_ret
  exact ⟨rfl, rfl⟩
theorem Skip_none {p : Option Addr} {w : World} (n : Int) (h : noR p w) : Calls Tryz.prog 149 #[.pointer p, .int .i64 n] w fun e w' => e = .returned (.int .i64 25) ∧ w = w' := by
  go_enter Tryz.func149, Tryz.ntmps149
  go_wp2_with (go_at_call 176; refine (check_none _ h).mono ?_; rintro e w' ⟨rfl, rfl⟩)
  go_ret
  exact ⟨rfl, rfl⟩
theorem Peek_none {p : Option Addr} {w : World} (n : Int) (h : noR p w) : Calls Tryz.prog 160 #[.pointer p, .int .i64 n] w fun e w' => e = .returned (.int .i64 0) ∧ w = w' := by
  go_enter Tryz.func160, Tryz.ntmps160
  go_wp2_with (go_at_call 69; refine (h).mono ?_; rintro e w' ⟨rfl, rfl⟩)
  go_ret
  exact ⟨rfl, rfl⟩

/-- A table that is not there, or that New did not make. -/
def noT (p : Option Addr) (w : World) : Prop := Calls Tryz.prog 158 #[.pointer p] w fun e w' => e = .returned (.bool true) ∧ w = w'
theorem Read_noT {p : Option Addr} {w : World} (v : Value) (h : noT p w) : Calls Tryz.prog 132 #[.pointer p, v] w fun e w' => e = .returned (.tuple #[.int .i64 0, .int .i64 25]) ∧ w = w' := by
  go_enter Tryz.func132, Tryz.ntmps132
  go_wp2_with (go_at_call 158; refine (h).mono ?_; rintro e w' ⟨rfl, rfl⟩)
  go_ret2
  exact ⟨rfl, rfl⟩
theorem peek0 : peekN 0 0 15 = 0 := by decide
set_option maxHeartbeats 1000000 in
set_option maxRecDepth 100000 in
theorem Read_noR {p : Option Addr} {w : World} {g n : Nat} {l : List Nat} (h15 : ∀ i, nth l i ≤ 15) (hks : ksum l 16 ≤ 32768) (hl : l.length ≤ 320) (hn : n = l.length) (ht : tabl w g n l) (h : ∀ w', Below w.heap.size w w' → noR p w') :
    Calls Tryz.prog 132 #[.pointer (some ⟨g, 0, none⟩), .pointer p] w fun e w' => e = .returned (.tuple #[.int .i64 0, .int .i64 25]) ∧ Below w.heap.size w w' := by
  obtain ⟨c, d, te, hF⟩ := find_tells h15 hks hl hn ht 0 0 0
  rw [peek0] at hF
  have hc15 := te.c15
  have hd3 := te.d3
  have HF : Hid (Calls Tryz.prog 159 #[.pointer (some ⟨g, 0, none⟩), .int .i64 0] w fun e w'' => e = .returned (.agg #[.int .u16 c, .int .u16 d]) ∧ Below w.heap.size w w'') := Lib.hid (hF w (Below.refl _ _))
  have HN : Hid (Calls Tryz.prog 158 #[.pointer (some ⟨g, 0, none⟩)] w fun e w' => e = .returned (.bool false) ∧ w = w') := by
    obtain ⟨base, F, v, bs, G, hb, _⟩ := ht
    exact Lib.hid (pNone_any hb.c0)
  have H := Lib.hid h
  clear te hF ht h h15 hks hl hn
  go_enter Tryz.func132, Tryz.ntmps132
  go_wp2_with fail
  refine HN.out.mono ?_
  rintro e w' ⟨rfl, rfl⟩
  go_wp2_with fail
  refine (Peek_none _ (H.out _ (Below.refl _ _))).mono ?_
  rintro e w' ⟨rfl, rfl⟩
  go_wp2_with fail
  refine HF.out.mono ?_
  rintro e w1 ⟨rfl, b1⟩
  have B1 := Lib.hid b1
  clear b1
  go_wp2_with fail
  refine (Skip_none _ (H.out _ (grows B1.out (below_alloc _ _)))).mono ?_
  rintro e w' ⟨rfl, rfl⟩
  go_wp2
  go_ret2
  exact ⟨rfl, grows B1.out (below_alloc _ _)⟩
theorem Write_none {w : World} (v : Value) (y : Int) : Calls Tryz.prog 141 #[.pointer none, v, .int .i64 y] w fun e w' => e = .returned (.int .i64 25) ∧ w = w' := by
  go_enter Tryz.func141, Tryz.ntmps141
  go_wp2_with (go_at_call 113; refine (wPut_none 0 none _ (none_nil _)).mono ?_; rintro e w' ⟨rfl, rfl⟩)
  go_ret
  exact ⟨rfl, rfl⟩
end Go.Proofs.YtnkninjdpgpkmaaGreatDoor.Pn
