/-
  bitrow's New and the methods that move a reader, called with a reader that New made: their results, the reader behind them; of what was there only the reader has changed.
  The calls with fixed values that stand at the end of each law of layer 4: they answer as they must.
  bitrow's methods of a reader or a writer that is not there, or that Open did not make: they answer ErrNil, 0, nothing, and change nothing.
  Conditions: as each theorem says.
-/
import Derived.Test.YtnkninjdpgpkmaaGreatDoorBas
import Derived.Test.YtnkninjdpgpkmaaGreatDoorBao
import Derived.Shelf.Pu.Clone
import Derived.Deep.RegionWith
import Derived.StillTailTactics
import Derived.Test.YtnkninjdpgpkmaaGreatDoorBbb
namespace Go.Proofs.YtnkninjdpgpkmaaGreatDoor.Bs
open Go.RowKit Go.Proofs.YtnkninjdpgpkmaaGreatDoor.Vm Go.Proofs.YtnkninjdpgpkmaaGreatDoor.Vo Go.Proofs.YtnkninjdpgpkmaaGreatDoor.Bm Go.Proofs.YtnkninjdpgpkmaaGreatDoor.Bt Go.Proofs.YtnkninjdpgpkmaaGreatDoor.Bw Go.Proofs.YtnkninjdpgpkmaaGreatDoor.Br Go.Proofs.YtnkninjdpgpkmaaGreatDoor.Bp Go.PlainAid

/-- Only block g has changed. -/
def At (g : Nat) (k : Nat) : Prop := k = g
theorem At.self (g : Nat) : At g g := rfl

theorem rd_put {w : World} {g : Nat} {s : ByteArray} {a b : Nat} {x : Int} (h : rd w g s a) (hx : x = (b : Int)) : rd (w.setCell ⟨g, 2, none⟩ (.int .i64 x)) g s b := by
  subst hx; exact h.store b
theorem rr_put {w : World} {g : Nat} {s : ByteArray} {a b : Nat} {x : Int} (h : rr w g s a) (hx : x = (b : Int)) : rr (w.setCell ⟨g, 1, none⟩ (.int .i64 x)) g s b := by
  subst hx; exact h.store b

/-- A new reader. -/
theorem reader_any (s : ByteArray) (a : Nat) (w : World) :
    Calls Tryz.prog 60 #[.string s, .int .i64 a] w fun e w' => ∃ g, e = .returned (.pointer (some ⟨g, 0, none⟩)) ∧ rd w' g s a ∧ g = w.heap.size ∧ Below w.heap.size w w' := by
  go_enter Tryz.func60, Tryz.ntmps60
  go_wp2
  go_ret
  exact ⟨w.heap.size, rfl, Blk.fresh w 130 _, rfl, (Below.refl _ _).alloc (Nat.le_refl _) _⟩

theorem New_ok (s : ByteArray) (a : Nat) (w : World) (hs : s.size ≤ 281474976710656) (ha : a ≤ 8 * s.size) :
    Calls Tryz.prog 28 #[.string s, .int .i64 a] w fun e w' => ∃ g, e = .returned (.tuple #[.pointer (some ⟨g, 0, none⟩), .int .i64 0]) ∧ rd w' g s a ∧ g = w.heap.size ∧ Below w.heap.size w w' := by
  go_enter Tryz.func28, Tryz.ntmps28
  go_wp2_with (go_at_call 60; refine (reader_any _ _ _).mono ?_; rintro e w1 ⟨g, rfl, r1, rfl, b1⟩)
  go_ret2
  exact ⟨_, rfl, r1, rfl, b1⟩
theorem New_no (s : ByteArray) (a : Int) (w : World) (hs : s.size ≤ 281474976710656) (ha : a < 0 ∨ 8 * (s.size : Int) < a) :
    Calls Tryz.prog 28 #[.string s, .int .i64 a] w fun e w' => e = .returned (.tuple #[.pointer none, .int .i64 1]) ∧ w = w' := by
  rcases ha with ha | ha
  all_goals
    go_enter Tryz.func28, Tryz.ntmps28
    go_wp2
    go_ret2
    exact ⟨rfl, rfl⟩

theorem check_b {w : World} {g : Nat} {s : ByteArray} {a : Nat} (n : Int) (h : rd w g s a) (hs : s.size ≤ 281474976710656) (ha : a ≤ 8 * s.size) :
    Calls Tryz.prog 176 #[.pointer (some ⟨g, 0, none⟩), .int .i64 n] w fun e w' => e = .returned (.int .i64 (chk s a n)) ∧ rd w' g s a ∧ Below w.heap.size w w' :=
  (check_any n h hs ha).mono fun _ _ ⟨he, k, hk⟩ => ⟨he, by rw [hk]; exact h.draws k, by rw [hk]; exact below_draws w k⟩
theorem left_b {w : World} {g : Nat} {s : ByteArray} {a : Nat} (h : rd w g s a) (hs : s.size ≤ 281474976710656) (ha : a ≤ 8 * s.size) :
    Calls Tryz.prog 150 #[.pointer (some ⟨g, 0, none⟩)] w fun e w' => e = .returned (.int .i64 ((8 * s.size - a : Nat) : Int)) ∧ rd w' g s a ∧ Below w.heap.size w w' :=
  (left_any h hs ha).mono fun _ _ ⟨he, k, hk⟩ => ⟨he, by rw [hk]; exact h.draws k, by rw [hk]; exact below_draws w k⟩
theorem Peek_b {w : World} {g : Nat} {s : ByteArray} {a : Nat} (n : Int) (h : rd w g s a) (hs : s.size ≤ 281474976710656) (ha : a ≤ 8 * s.size) :
    Calls Tryz.prog 160 #[.pointer (some ⟨g, 0, none⟩), .int .i64 n] w fun e w' => e = .returned (.int .i64 (peekR s a n)) ∧ rd w' g s a ∧ Below w.heap.size w w' :=
  (Peek_any n h hs ha).mono fun _ _ ⟨he, k, hk⟩ => ⟨he, by rw [hk]; exact h.draws k, by rw [hk]; exact below_draws w k⟩

/-- Where a reader stands behind n bits. -/
def moved (s : ByteArray) (a : Nat) (n : Int) : Nat := if chk s a n = 0 then a + n.toNat else a
theorem chk_ok {s : ByteArray} {a : Nat} {n : Int} (h : chk s a n = 0) (ha : a ≤ 8 * s.size) : ∃ m : Nat, n = (m : Int) ∧ m ≤ 32 ∧ a + m ≤ 8 * s.size := by
  unfold chk at h
  by_cases hc : cnt n = true
  · have hn : 0 ≤ n ∧ n ≤ 32 := by simpa [cnt] using hc
    obtain ⟨m, rfl⟩ := Int.eq_ofNat_of_zero_le hn.1
    rw [if_pos hc] at h
    by_cases hl : ((8 * s.size - a : Nat) : Int) < (m : Int)
    · rw [if_pos hl] at h; cases h
    · exact ⟨m, rfl, by omega, by omega⟩
  · rw [if_neg hc] at h; cases h
theorem moved_le {s : ByteArray} {a : Nat} {n : Int} (ha : a ≤ 8 * s.size) : moved s a n ≤ 8 * s.size := by
  unfold moved
  by_cases h : chk s a n = 0
  · rw [if_pos h]
    obtain ⟨m, rfl, _, hm⟩ := chk_ok h ha
    simpa using hm
  · rw [if_neg h]; exact ha

theorem Skip_any {w : World} {g : Nat} {s : ByteArray} {a : Nat} (n : Int) (h : rd w g s a) (hs : s.size ≤ 281474976710656) (ha : a ≤ 8 * s.size) :
    Calls Tryz.prog 149 #[.pointer (some ⟨g, 0, none⟩), .int .i64 n] w fun e w' => e = .returned (.int .i64 (chk s a n)) ∧ rd w' g s (moved s a n) ∧ Only (At g) w w' := by
  have hC := Lib.hid (check_b n h hs ha)
  by_cases hc : chk s a n = 0
  · obtain ⟨m, rfl, hm, ham⟩ := chk_ok hc ha
    have HM : Hid (moved s a m = a + m) := Lib.hid (by unfold moved; rw [if_pos hc]; rfl)
    have HC := Lib.hid hc
    clear hc h
    go_enter Tryz.func149, Tryz.ntmps149
    go_wp2_with fail
    refine hC.out.mono ?_
    rintro e w1 ⟨rfl, r1, b1⟩
    rw [HC.out]
    have c2 := r1.c2
    have f2 := r1.f2
    go_wp2
    go_ret
    exact ⟨ret_int HC.out.symm, by rw [HM.out]; exact r1.store _, (Only.of_below b1).store (.inl (At.self g)) _⟩
  · have HM : Hid (moved s a n = a) := Lib.hid (by unfold moved; rw [if_neg hc])
    have hd : (chk s a n != 0) = true := by simpa using hc
    clear hc h
    go_enter Tryz.func149, Tryz.ntmps149
    go_wp2_with (go_at_call 176; refine hC.out.mono ?_; rintro e w1 ⟨rfl, r1, b1⟩)
    go_ret
    exact ⟨rfl, by rw [HM.out]; exact r1, Only.of_below b1⟩

/-- What Bits answers. -/
def bitsV (s : ByteArray) (a : Nat) (n : Int) : Int := if chk s a n = 0 then peekR s a n else 0

theorem Bits_any {w : World} {g : Nat} {s : ByteArray} {a : Nat} (n : Int) (h : rd w g s a) (hs : s.size ≤ 281474976710656) (ha : a ≤ 8 * s.size) :
    Calls Tryz.prog 146 #[.pointer (some ⟨g, 0, none⟩), .int .i64 n] w fun e w' => e = .returned (.tuple #[.int .i64 (bitsV s a n), .int .i64 (chk s a n)]) ∧ rd w' g s (moved s a n) ∧ Only (At g) w w' := by
  have hC := Lib.hid (check_b n h hs ha)
  by_cases hc : chk s a n = 0
  · obtain ⟨m, rfl, hm, ham⟩ := chk_ok hc ha
    have HM : Hid (moved s a m = a + m) := Lib.hid (by unfold moved; rw [if_pos hc]; rfl)
    have HV : Hid (bitsV s a m = peekR s a m) := Lib.hid (by unfold bitsV; rw [if_pos hc])
    have HC := Lib.hid hc
    clear hc h
    go_enter Tryz.func146, Tryz.ntmps146
    go_wp2_with fail
    refine hC.out.mono ?_
    rintro e w1 ⟨rfl, r1, b1⟩
    rw [HC.out]
    go_wp2_with fail
    refine (Peek_b _ r1 hs ha).mono ?_
    rintro e w2 ⟨rfl, r2, b2⟩
    have c2 := r2.c2
    have f2 := r2.f2
    go_wp2
    go_ret2
    exact ⟨ret_int2 HV.out.symm HC.out.symm, by rw [HM.out]; exact r2.store _, (Only.of_below (grows b1 b2)).store (.inl (At.self g)) _⟩
  · have HM : Hid (moved s a n = a) := Lib.hid (by unfold moved; rw [if_neg hc])
    have HV : Hid (bitsV s a n = 0) := Lib.hid (by unfold bitsV; rw [if_neg hc])
    have hd : (chk s a n != 0) = true := by simpa using hc
    clear hc h
    go_enter Tryz.func146, Tryz.ntmps146
    go_wp2_with (go_at_call 176; refine hC.out.mono ?_; rintro e w1 ⟨rfl, r1, b1⟩)
    go_ret2
    exact ⟨ret_int2 HV.out.symm rfl, by rw [HM.out]; exact r1, Only.of_below b1⟩

theorem Align_any {w : World} {g : Nat} {s : ByteArray} {a : Nat} (h : rd w g s a) (hs : s.size ≤ 281474976710656) (ha : a ≤ 8 * s.size) :
    Calls Tryz.prog 177 #[.pointer (some ⟨g, 0, none⟩)] w fun e w' => e = .returned (.tuple #[]) ∧ rd w' g s ((a + 7) / 8 * 8) ∧ Only (At g) w w' := by
  have hN := Lib.hid (isNone_any h)
  have c2 := h.c2
  have f2 := h.f2
  go_enter Tryz.func177, Tryz.ntmps177
  go_wp2_with (go_at_call 69; refine hN.out.mono ?_; rintro e w' ⟨rfl, rfl⟩)
  go_end0
  exact ⟨rfl, rd_put h (by omega), (Only.refl _ _).store (.inl (At.self g)) _⟩

theorem At_any {w : World} {g : Nat} {s : ByteArray} {a : Nat} (h : rd w g s a) :
    Calls Tryz.prog 40 #[.pointer (some ⟨g, 0, none⟩)] w fun e w' => e = .returned (.int .i64 a) ∧ w' = w := by
  have hN := Lib.hid (isNone_any h)
  have c2 := h.c2
  go_enter Tryz.func40, Tryz.ntmps40
  go_wp2_with (go_at_call 69; refine hN.out.mono ?_; rintro e w' ⟨rfl, rfl⟩)
  go_ret
  exact ⟨rfl, rfl⟩

theorem Left_any {w : World} {g : Nat} {s : ByteArray} {a : Nat} (h : rd w g s a) (hs : s.size ≤ 281474976710656) (ha : a ≤ 8 * s.size) :
    Calls Tryz.prog 127 #[.pointer (some ⟨g, 0, none⟩)] w fun e w' => e = .returned (.int .i64 ((8 * s.size - a : Nat) : Int)) ∧ ∃ n, w' = w.drewN n := by
  have hN := Lib.hid (isNone_any h)
  have hL := Lib.hid (left_any h hs ha)
  clear h
  go_enter Tryz.func127, Tryz.ntmps127
  go_wp2_with (first | (go_at_call 69; refine hN.out.mono ?_; rintro e w' ⟨rfl, rfl⟩) | (go_at_call 150; refine hL.out.mono ?_; rintro e w' ⟨rfl, k, rfl⟩))
  go_ret
  exact ⟨rfl, _, rfl⟩

/-- The library's contract of internal/stringslite.Clone, over this program's numbers. -/
def ren : Shelf.Ren := ⟨fun _ => 181, fun | 0 => 0 | 3 => 3 | 4 => 4 | 5 => 5 | 9 => 9 | 37 => 62 | _ => 237, fun x => x⟩
theorem lays : LaysPu.n25 Tryz.prog ren := by
  constructor <;> (intros; kernel_rfl)
theorem slClone_any (s : ByteArray) (w : World) (hlim : s.size ≤ 281474976710656) :
    Calls Tryz.prog 181 #[.string s] w fun e w' => e = .returned (.string s) ∧ Below w.heap.size w w' :=
  AnyPu.stringslite_Clone lays s w hlim
theorem Clone_any (s : ByteArray) (w : World) (hlim : s.size ≤ 281474976710656) :
    Calls Tryz.prog 151 #[.string s] w fun e w' => e = .returned (.string s) ∧ Below w.heap.size w w' := by
  go_enter Tryz.func151, Tryz.ntmps151
  go_wp2_with (go_at_call 181; refine (slClone_any _ _ hlim).mono ?_; rintro e w' ⟨rfl, hb⟩)
  go_ret
  exact ⟨rfl, hb⟩

/-- What Bytes answers: its error, the bytes, where the reader stands then. -/
def bytE (s : ByteArray) (a : Nat) (n : Int) : Int := if n < 0 ∨ ¬ a % 8 = 0 then 1 else if (((8 * s.size - a) / 8 : Nat) : Int) < n then 2 else 0
def bytV (s : ByteArray) (a : Nat) (n : Int) : ByteArray := if bytE s a n = 0 then s.extract (a / 8) (a / 8 + n.toNat) else ⟨#[]⟩
def bytA (s : ByteArray) (a : Nat) (n : Int) : Nat := if bytE s a n = 0 then a + 8 * n.toNat else a
theorem bytE_cases (s : ByteArray) (a : Nat) (n : Int) (ha : a ≤ 8 * s.size) : (bytE s a n = 1 ∧ (n < 0 ∨ (0 ≤ n ∧ ¬ a % 8 = 0)) ∧ bytV s a n = ⟨#[]⟩ ∧ bytA s a n = a) ∨ (bytE s a n = 2 ∧ 0 ≤ n ∧ a % 8 = 0 ∧ (((8 * s.size - a) / 8 : Nat) : Int) < n ∧ bytV s a n = ⟨#[]⟩ ∧ bytA s a n = a)
    ∨ (bytE s a n = 0 ∧ ∃ p m : Nat, n = (m : Int) ∧ a = 8 * p ∧ p + m ≤ s.size ∧ bytV s a n = s.extract p (p + m) ∧ bytA s a n = 8 * p + 8 * m) := by
  have hV : ∀ e : Int, e ≠ 0 → bytE s a n = e → bytV s a n = ⟨#[]⟩ ∧ bytA s a n = a := by
    intro e he h
    unfold bytV bytA
    rw [h, if_neg he, if_neg he]
    exact ⟨rfl, rfl⟩
  by_cases h1 : n < 0 ∨ ¬ a % 8 = 0
  · have e : bytE s a n = 1 := by unfold bytE; rw [if_pos h1]
    exact .inl ⟨e, by omega, hV 1 (by decide) e⟩
  · by_cases h2 : (((8 * s.size - a) / 8 : Nat) : Int) < n
    · have e : bytE s a n = 2 := by unfold bytE; rw [if_neg h1, if_pos h2]
      exact .inr (.inl ⟨e, by omega, by omega, h2, hV 2 (by decide) e⟩)
    · have e : bytE s a n = 0 := by unfold bytE; rw [if_neg h1, if_neg h2]
      obtain ⟨m, rfl⟩ := Int.eq_ofNat_of_zero_le (show 0 ≤ n by omega)
      refine .inr (.inr ⟨e, a / 8, m, rfl, by omega, by omega, ?_, ?_⟩)
      · unfold bytV; rw [if_pos e]; rfl
      · unfold bytA; rw [if_pos e]; simp; omega
theorem bytA_le {s : ByteArray} {a : Nat} {n : Int} (ha : a ≤ 8 * s.size) : bytA s a n ≤ 8 * s.size := by
  rcases bytE_cases s a n ha with ⟨_, _, _, h⟩ | ⟨_, _, _, _, _, h⟩ | ⟨_, p, m, _, _, _, _, h⟩ <;> omega

theorem ret_si {s t : ByteArray} {k : IntKind} {a b : Int} (h : s = t) (h' : a = b) : Ending.returned (.tuple #[.string s, .int k a]) = .returned (.tuple #[.string t, .int k b]) := by rw [h, h']

theorem Bytes_any {w : World} {g : Nat} {s : ByteArray} {a : Nat} (n : Int) (h : rd w g s a) (hs : s.size ≤ 281474976710656) (ha : a ≤ 8 * s.size) (hn : n ≤ 9223372036854775807) :
    Calls Tryz.prog 129 #[.pointer (some ⟨g, 0, none⟩), .int .i64 n] w fun e w' => e = .returned (.tuple #[.string (bytV s a n), .int .i64 (bytE s a n)]) ∧ rd w' g s (bytA s a n) ∧ Only (At g) w w' := by
  have hN := Lib.hid (isNone_any h)
  have c1 := h.c1
  have c2 := h.c2
  have f2 := h.f2
  have hL := Lib.hid (left_b h hs ha)
  have H := Lib.hid h
  clear h
  rcases bytE_cases s a n ha with ⟨h1, hn | ⟨hn0, hn⟩, h3, h4⟩ | ⟨h1, hn0, hn1, hn, h3, h4⟩ | ⟨h1, p, m, rfl, rfl, hpm, h3, h4⟩
  · have H1 := Lib.hid h1; have H3 := Lib.hid h3; have H4 := Lib.hid h4
    clear h1 h3 h4
    go_enter Tryz.func129, Tryz.ntmps129
    go_wp2_with (go_at_call 69; refine hN.out.mono ?_; rintro e w' ⟨rfl, rfl⟩)
    go_ret2
    exact ⟨ret_si H3.out.symm H1.out.symm, by rw [H4.out]; exact H.out, Only.refl _ _⟩
  · have H1 := Lib.hid h1; have H3 := Lib.hid h3; have H4 := Lib.hid h4
    have hd : ((a : Int) % 8 != 0) = true := by simp; omega
    clear h1 h3 h4
    go_enter Tryz.func129, Tryz.ntmps129
    go_wp2_with (go_at_call 69; refine hN.out.mono ?_; rintro e w' ⟨rfl, rfl⟩)
    all_goals try (exfalso; omega)
    go_ret2
    exact ⟨ret_si H3.out.symm H1.out.symm, by rw [H4.out]; exact H.out, Only.refl _ _⟩
  · have H1 := Lib.hid h1; have H3 := Lib.hid h3; have H4 := Lib.hid h4
    have hd : ((a : Int) % 8 != 0) = false := by simp; omega
    clear h1 h3 h4
    generalize hL' : 8 * s.size - a = L at *
    have HL' := Lib.hid hL'
    clear hL' hn1
    go_enter Tryz.func129, Tryz.ntmps129
    go_wp2_with (first | (go_at_call 69; refine hN.out.mono ?_; rintro e w' ⟨rfl, rfl⟩) | (go_at_call 150; refine hL.out.mono ?_; rintro e w1 ⟨rfl, r1, b1⟩))
    all_goals try (exfalso; omega)
    go_ret2
    exact ⟨ret_si H3.out.symm H1.out.symm, by rw [H4.out]; exact r1, Only.of_below b1⟩
  · have H1 := Lib.hid h1; have H3 := Lib.hid h3; have H4 := Lib.hid h4
    clear h1 h3 h4
    have hd : (((8 * p : Nat) : Int) % 8 != 0) = false := by simp
    have hd2 : ((8 * p : Nat) : Int) / 8 = (p : Int) := by omega
    have hxs : (s.extract p (p + m)).size ≤ 281474976710656 := by rw [ByteArray.size_extract]; omega
    go_enter Tryz.func129, Tryz.ntmps129
    go_wp2_with (first | (go_at_call 69; refine hN.out.mono ?_; rintro e w' ⟨rfl, rfl⟩) | (go_at_call 150; refine hL.out.mono ?_; rintro e w1 ⟨rfl, r1, b1⟩; have k1 := r1.c1; have k2 := r1.c2; have k3 := r1.f2))
    refine (Clone_any _ _ hxs).mono ?_
    rintro e w2 ⟨rfl, b2⟩
    have r2 : rd (w1.setCell ⟨g, 2, none⟩ (.int .i64 (8 * ↑p + 8 * ↑m))) g s (8 * p + 8 * m) := rd_put r1 (by omega)
    have o2 : Only (At g) w (w1.setCell ⟨g, 2, none⟩ (.int .i64 (8 * ↑p + 8 * ↑m))) := (Only.of_below b1).store (.inl (At.self g)) _
    go_wp2
    go_ret2
    exact ⟨ret_si H3.out.symm H1.out.symm, by rw [H4.out]; exact r2.below b2, o2.trans (Only.of_below b2)⟩

theorem Copy_any {w : World} {g : Nat} {s : ByteArray} {a : Nat} (h : rd w g s a) :
    Calls Tryz.prog 36 #[.pointer (some ⟨g, 0, none⟩)] w fun e w' => ∃ g', e = .returned (.pointer (some ⟨g', 0, none⟩)) ∧ rd w' g' s a ∧ g' = w.heap.size ∧ Below w.heap.size w w' := by
  have hN := Lib.hid (isNone_any h)
  have c1 := h.c1
  have c2 := h.c2
  clear h
  go_enter Tryz.func36, Tryz.ntmps36
  go_wp2_with (go_at_call 69; refine hN.out.mono ?_; rintro e w' ⟨rfl, rfl⟩)
  go_region_with (go_at_call 60; refine (reader_any _ _ _).mono ?_; rintro e w1 ⟨g', rfl, r1, rfl, b1⟩)
  all_goals
    go_wp2
    go_ret
    exact ⟨_, rfl, r1, rfl, (Below.refl _ _).drew.trans b1⟩

end Go.Proofs.YtnkninjdpgpkmaaGreatDoor.Bs
namespace Go.Proofs.YtnkninjdpgpkmaaGreatDoor.Bk
open Go.RowKit Go.Proofs.YtnkninjdpgpkmaaGreatDoor.Vm Go.Proofs.YtnkninjdpgpkmaaGreatDoor.Vo Go.Proofs.YtnkninjdpgpkmaaGreatDoor.Bm Go.Proofs.YtnkninjdpgpkmaaGreatDoor.Bo Go.Proofs.YtnkninjdpgpkmaaGreatDoor.Bt Go.Proofs.YtnkninjdpgpkmaaGreatDoor.Bw Go.Proofs.YtnkninjdpgpkmaaGreatDoor.Br Go.Proofs.YtnkninjdpgpkmaaGreatDoor.Bp Go.Proofs.YtnkninjdpgpkmaaGreatDoor.Bs Go.Proofs.YtnkninjdpgpkmaaGreatDoor.Bv Go.Proofs.YtnkninjdpgpkmaaGreatDoor.Bx

theorem wt_only {S : Nat → Prop} {base : Nat} {w w' : World} {g : Nat} {v : Value} {l : List UInt8} {z : Nat} (h : wt base w g v l z) (k : Only S w w') (hg : ¬ S g) (hv : ∀ i, v.ownBlock = some i → ¬ S i) : wt base w' g v l z :=
  ⟨h.b.only k hg, own_only h.o k hv, h.lt, h.len⟩

/-- The fixed text. -/
def tx : ByteArray := ⟨#[5, 128]⟩
theorem k1 : bitsV tx 0 3 = 5 ∧ chk tx 0 3 = 0 ∧ moved tx 0 3 = 3 := by decide +kernel
theorem k2 : bitsV tx 3 5 = 0 ∧ chk tx 3 5 = 0 ∧ moved tx 3 5 = 8 := by decide +kernel
theorem k3 : bitsV tx 8 8 = 128 ∧ chk tx 8 8 = 0 ∧ moved tx 8 8 = 16 := by decide +kernel
theorem k4 : bitsV tx 16 1 = 0 ∧ chk tx 16 1 = 2 ∧ moved tx 16 1 = 16 := by decide +kernel
theorem k5 : putE 1 1 = 0 ∧ putZ 0 1 1 = 1 ∧ putN 0 0 1 1 = 1 := by decide +kernel
theorem k6 : putE 3 3 = 0 ∧ putZ 1 3 3 = 4 ∧ codeN 1 1 3 3 = 13 := by decide +kernel
theorem k7 : turnR 1 3 = 4 := by decide +kernel
theorem k8 (l : List UInt8) (h1 : l.length = 1) (h2 : num l = 13) : l = [13] := num_inj _ _ (by rw [h1]; rfl) (by rw [h2]; rfl)

end Go.Proofs.YtnkninjdpgpkmaaGreatDoor.Bk
namespace Go.Proofs.YtnkninjdpgpkmaaGreatDoor.Bn
open Go.RowKit Go.Proofs.YtnkninjdpgpkmaaGreatDoor.Bt Go.Proofs.YtnkninjdpgpkmaaGreatDoor.Bw Go.Proofs.YtnkninjdpgpkmaaGreatDoor.Br Go.Proofs.YtnkninjdpgpkmaaGreatDoor.Bv

/-- A writer that is not there, or that Open did not make. -/
def none' (p : Option Addr) (w : World) : Prop := Calls Tryz.prog 83 #[.pointer p] w fun e w' => e = .returned (.bool true) ∧ w = w'
theorem none_nil (w : World) : none' none w := wNone_nil w
theorem none_zero {w : World} {g : Nat} {v : Value} {z : Nat} (h : Blk w g 139 #[.pointer none, v, .int .i64 z]) : none' (some ⟨g, 0, none⟩) w := by
  have c0 : w.cell? ⟨g, 0, none⟩ = some (.pointer none) := Blk.cell h 0
  have he := run_neq_nil (P := Tryz.prog) w ⟨g, 0, none⟩ Tryz.underlying99
  unfold none'
  go_enter Tryz.func83, Tryz.ntmps83
  go_wp2
  go_ret
  exact ⟨rfl, rfl⟩

section
variable (n : Int) (s : ByteArray) (p : Option Addr) (w : World)
theorem check_nil : Calls Tryz.prog 176 #[.pointer none, .int .i64 n] w fun e w' => e = .returned (.int .i64 25) ∧ w = w' := by
  go_enter Tryz.func176, Tryz.ntmps176
  go_wp2_with (go_at_call 69; refine (isNone_nil _).mono ?_; rintro e w' ⟨rfl, rfl⟩)
  go_ret
  exact ⟨rfl, rfl⟩
theorem Bits_nil : Calls Tryz.prog 146 #[.pointer none, .int .i64 n] w fun e w' => e = .returned (.tuple #[.int .i64 0, .int .i64 25]) ∧ w = w' := by
  go_enter Tryz.func146, Tryz.ntmps146
  go_wp2_with (go_at_call 176; refine (check_nil _ _).mono ?_; rintro e w' ⟨rfl, rfl⟩)
  go_ret2
  exact ⟨rfl, rfl⟩
theorem Skip_nil : Calls Tryz.prog 149 #[.pointer none, .int .i64 n] w fun e w' => e = .returned (.int .i64 25) ∧ w = w' := by
  go_enter Tryz.func149, Tryz.ntmps149
  go_wp2_with (go_at_call 176; refine (check_nil _ _).mono ?_; rintro e w' ⟨rfl, rfl⟩)
  go_ret
  exact ⟨rfl, rfl⟩
theorem Peek_nil : Calls Tryz.prog 160 #[.pointer none, .int .i64 n] w fun e w' => e = .returned (.int .i64 0) ∧ w = w' := by
  go_enter Tryz.func160, Tryz.ntmps160
  go_wp2_with (go_at_call 69; refine (isNone_nil _).mono ?_; rintro e w' ⟨rfl, rfl⟩)
  go_ret
  exact ⟨rfl, rfl⟩
theorem Bytes_nil : Calls Tryz.prog 129 #[.pointer none, .int .i64 n] w fun e w' => e = .returned (.tuple #[.string ⟨#[]⟩, .int .i64 25]) ∧ w = w' := by
  go_enter Tryz.func129, Tryz.ntmps129
  go_wp2_with (go_at_call 69; refine (isNone_nil _).mono ?_; rintro e w' ⟨rfl, rfl⟩)
  go_ret2
  exact ⟨rfl, rfl⟩
theorem Align_nil : Calls Tryz.prog 177 #[.pointer none] w fun e w' => e = .returned (.tuple #[]) ∧ w = w' := by
  go_enter Tryz.func177, Tryz.ntmps177
  go_wp2_with (go_at_call 69; refine (isNone_nil _).mono ?_; rintro e w' ⟨rfl, rfl⟩)
  refine bodyPost_ret (results_none rfl _ _ _) rfl ?_
  exact ⟨rfl, rfl⟩
theorem At_nil : Calls Tryz.prog 40 #[.pointer none] w fun e w' => e = .returned (.int .i64 0) ∧ w = w' := by
  go_enter Tryz.func40, Tryz.ntmps40
  go_wp2_with (go_at_call 69; refine (isNone_nil _).mono ?_; rintro e w' ⟨rfl, rfl⟩)
  go_ret
  exact ⟨rfl, rfl⟩
theorem Left_nil : Calls Tryz.prog 127 #[.pointer none] w fun e w' => e = .returned (.int .i64 0) ∧ w = w' := by
  go_enter Tryz.func127, Tryz.ntmps127
  go_wp2_with (go_at_call 69; refine (isNone_nil _).mono ?_; rintro e w' ⟨rfl, rfl⟩)
  go_ret
  exact ⟨rfl, rfl⟩
theorem Copy_nil : Calls Tryz.prog 36 #[.pointer none] w fun e w' => e = .returned (.pointer none) ∧ w = w' := by
  go_enter Tryz.func36, Tryz.ntmps36
  go_wp2_with (go_at_call 69; refine (isNone_nil _).mono ?_; rintro e w' ⟨rfl, rfl⟩)
  go_ret
  exact ⟨rfl, rfl⟩
theorem wAlign_none (h : none' p w) : Calls Tryz.prog 120 #[.pointer p] w fun e w' => e = .returned (.tuple #[]) ∧ w = w' := by
  go_enter Tryz.func120, Tryz.ntmps120
  go_wp2_with (go_at_call 83; refine (h).mono ?_; rintro e w' ⟨rfl, rfl⟩)
  refine bodyPost_ret (results_none rfl _ _ _) rfl ?_
  exact ⟨rfl, rfl⟩
theorem wBytes_none (h : none' p w) : Calls Tryz.prog 82 #[.pointer p, .string s] w fun e w' => e = .returned (.tuple #[]) ∧ w = w' := by
  go_enter Tryz.func82, Tryz.ntmps82
  go_wp2_with (go_at_call 83; refine (h).mono ?_; rintro e w' ⟨rfl, rfl⟩)
  refine bodyPost_ret (results_none rfl _ _ _) rfl ?_
  exact ⟨rfl, rfl⟩
theorem wLen_none (h : none' p w) : Calls Tryz.prog 175 #[.pointer p] w fun e w' => e = .returned (.int .i64 0) ∧ w = w' := by
  go_enter Tryz.func175, Tryz.ntmps175
  go_wp2_with (go_at_call 83; refine (h).mono ?_; rintro e w' ⟨rfl, rfl⟩)
  go_ret
  exact ⟨rfl, rfl⟩
theorem wText_none (h : none' p w) : Calls Tryz.prog 50 #[.pointer p] w fun e w' => e = .returned (.string ⟨#[]⟩) ∧ w = w' := by
  go_enter Tryz.func50, Tryz.ntmps50
  go_wp2_with (go_at_call 83; refine (h).mono ?_; rintro e w' ⟨rfl, rfl⟩)
  go_ret
  exact ⟨rfl, rfl⟩
theorem number_none1 (h : none' p w) : Calls Tryz.prog 138 #[.pointer p, .int .i64 n, .int .i64 n, .func (.func 139) #[.pointer p] #[]] w fun e w' => e = .returned (.int .i64 25) ∧ w = w' := by
  go_enter Tryz.func138, Tryz.ntmps138
  go_wp2_with (go_at_call 83; refine (h).mono ?_; rintro e w' ⟨rfl, rfl⟩)
  go_ret
  exact ⟨rfl, rfl⟩
theorem number_none2 (h : none' p w) : Calls Tryz.prog 138 #[.pointer p, .int .i64 n, .int .i64 n, .func (.func 185) #[.pointer p] #[]] w fun e w' => e = .returned (.int .i64 25) ∧ w = w' := by
  go_enter Tryz.func138, Tryz.ntmps138
  go_wp2_with (go_at_call 83; refine (h).mono ?_; rintro e w' ⟨rfl, rfl⟩)
  go_ret
  exact ⟨rfl, rfl⟩
theorem wPut_none (h : none' p w) : Calls Tryz.prog 113 #[.pointer p, .int .i64 n, .int .i64 n] w fun e w' => e = .returned (.int .i64 25) ∧ w = w' := by
  go_enter Tryz.func113, Tryz.ntmps113
  go_wp2_with (go_at_call 138; refine (number_none1 _ _ _ h).mono ?_; rintro e w' ⟨rfl, rfl⟩)
  go_ret
  exact ⟨rfl, rfl⟩
theorem wCode_none (h : none' p w) : Calls Tryz.prog 169 #[.pointer p, .int .i64 n, .int .i64 n] w fun e w' => e = .returned (.int .i64 25) ∧ w = w' := by
  go_enter Tryz.func169, Tryz.ntmps169
  go_wp2_with (go_at_call 138; refine (number_none2 _ _ _ h).mono ?_; rintro e w' ⟨rfl, rfl⟩)
  go_ret
  exact ⟨rfl, rfl⟩
end

end Go.Proofs.YtnkninjdpgpkmaaGreatDoor.Bn
