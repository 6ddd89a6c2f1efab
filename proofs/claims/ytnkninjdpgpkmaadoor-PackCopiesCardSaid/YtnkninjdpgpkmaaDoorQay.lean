/-
  bitrow's New and the methods that move a reader, called with a reader that New made: their results, the reader behind them; of what was there only the reader has changed.
  Conditions: as each theorem says.
-/
import Derived.Test.YtnkninjdpgpkmaaDoorQas
import Derived.Test.YtnkninjdpgpkmaaDoorQao
import Derived.Shelf.Pu.Clone
import Derived.Deep.RegionWith
import Derived.StillTailTactics
namespace Go.Proofs.YtnkninjdpgpkmaaDoor.Bs
open Go.RowKit Go.Proofs.YtnkninjdpgpkmaaDoor.Vm Go.Proofs.YtnkninjdpgpkmaaDoor.Vo Go.Proofs.YtnkninjdpgpkmaaDoor.Bm Go.Proofs.YtnkninjdpgpkmaaDoor.Bt Go.Proofs.YtnkninjdpgpkmaaDoor.Bw Go.Proofs.YtnkninjdpgpkmaaDoor.Br Go.Proofs.YtnkninjdpgpkmaaDoor.Bp Go.PlainAid

/-- Only block g has changed. -/
def At (g : Nat) (k : Nat) : Prop := k = g
theorem At.self (g : Nat) : At g g := rfl

theorem rd_put {w : World} {g : Nat} {s : ByteArray} {a b : Nat} {x : Int} (h : rd w g s a) (hx : x = (b : Int)) : rd (w.setCell ⟨g, 2, none⟩ (.int .i64 x)) g s b := by
  subst hx; exact h.store b
/-- A new reader. -/
theorem reader_any (s : ByteArray) (a : Nat) (w : World) :
    Calls Tryd.prog 77 #[.string s, .int .i64 a] w fun e w' => ∃ g, e = .returned (.pointer (some ⟨g, 0, none⟩)) ∧ rd w' g s a ∧ g = w.heap.size ∧ Below w.heap.size w w' := by
  go_enter Tryd.func77, Tryd.ntmps77
  go_wp2
  go_ret
  exact ⟨w.heap.size, rfl, Blk.fresh w 140 _, rfl, (Below.refl _ _).alloc (Nat.le_refl _) _⟩

theorem New_ok (s : ByteArray) (a : Nat) (w : World) (hs : s.size ≤ 281474976710656) (ha : a ≤ 8 * s.size) :
    Calls Tryd.prog 69 #[.string s, .int .i64 a] w fun e w' => ∃ g, e = .returned (.tuple #[.pointer (some ⟨g, 0, none⟩), .int .i64 0]) ∧ rd w' g s a ∧ g = w.heap.size ∧ Below w.heap.size w w' := by
  go_enter Tryd.func69, Tryd.ntmps69
  go_wp2_with (go_at_call 77; refine (reader_any _ _ _).mono ?_; rintro e w1 ⟨g, rfl, r1, rfl, b1⟩)
  go_ret2
  exact ⟨_, rfl, r1, rfl, b1⟩
theorem New_no (s : ByteArray) (a : Int) (w : World) (hs : s.size ≤ 281474976710656) (ha : a < 0 ∨ 8 * (s.size : Int) < a) :
    Calls Tryd.prog 69 #[.string s, .int .i64 a] w fun e w' => e = .returned (.tuple #[.pointer none, .int .i64 1]) ∧ w = w' := by
  rcases ha with ha | ha
  all_goals
    go_enter Tryd.func69, Tryd.ntmps69
    go_wp2
    go_ret2
    exact ⟨rfl, rfl⟩

theorem check_b {w : World} {g : Nat} {s : ByteArray} {a : Nat} (n : Int) (h : rd w g s a) (hs : s.size ≤ 281474976710656) (ha : a ≤ 8 * s.size) :
    Calls Tryd.prog 78 #[.pointer (some ⟨g, 0, none⟩), .int .i64 n] w fun e w' => e = .returned (.int .i64 (chk s a n)) ∧ rd w' g s a ∧ Below w.heap.size w w' :=
  (check_any n h hs ha).mono fun _ _ ⟨he, k, hk⟩ => ⟨he, by rw [hk]; exact h.draws k, by rw [hk]; exact below_draws w k⟩
theorem left_b {w : World} {g : Nat} {s : ByteArray} {a : Nat} (h : rd w g s a) (hs : s.size ≤ 281474976710656) (ha : a ≤ 8 * s.size) :
    Calls Tryd.prog 83 #[.pointer (some ⟨g, 0, none⟩)] w fun e w' => e = .returned (.int .i64 ((8 * s.size - a : Nat) : Int)) ∧ rd w' g s a ∧ Below w.heap.size w w' :=
  (left_any h hs ha).mono fun _ _ ⟨he, k, hk⟩ => ⟨he, by rw [hk]; exact h.draws k, by rw [hk]; exact below_draws w k⟩
theorem Peek_b {w : World} {g : Nat} {s : ByteArray} {a : Nat} (n : Int) (h : rd w g s a) (hs : s.size ≤ 281474976710656) (ha : a ≤ 8 * s.size) :
    Calls Tryd.prog 79 #[.pointer (some ⟨g, 0, none⟩), .int .i64 n] w fun e w' => e = .returned (.int .i64 (peekR s a n)) ∧ rd w' g s a ∧ Below w.heap.size w w' :=
  (Peek_any n h hs ha).mono fun _ _ ⟨he, k, hk⟩ => ⟨he, by rw [hk]; exact h.draws k, by rw [hk]; exact below_draws w k⟩

/-- Where a reader stands behind n bits. -/
def moved (s : ByteArray) (a : Nat) (n : Int) : Nat := if chk s a n = 0 then a + n.toNat else a
theorem chk_ok {s : ByteArray} {a : Nat} {n : Int} (h : chk s a n = 0) (ha : a ≤ 8 * s.size) : ∃ m : Nat, n = (m : Int) ∧ m ≤ 32 ∧ a + m ≤ 8 * s.size := by
  unfold chk at h
  by_cases hc : cnt n = true
  · have hn : 0 ≤ n ∧ n ≤ 32 := by simpa [cnt] using hc
    obtain ⟨m, rfl⟩ := Int.eq_ofNat_of_zero_le hn.1
    rw [if_pos hc] at h
    by_cases hl : ((8 * s.size - a : Nat) : Int) < (m : Int)
    · rw [if_pos hl] at h; cases h
    · exact ⟨m, rfl, by omega, by omega⟩
  · rw [if_neg hc] at h; cases h
theorem moved_le {s : ByteArray} {a : Nat} {n : Int} (ha : a ≤ 8 * s.size) : moved s a n ≤ 8 * s.size := by
  unfold moved
  by_cases h : chk s a n = 0
  · rw [if_pos h]
    obtain ⟨m, rfl, _, hm⟩ := chk_ok h ha
    simpa using hm
  · rw [if_neg h]; exact ha

/-- What Bits answers. -/
def bitsV (s : ByteArray) (a : Nat) (n : Int) : Int := if chk s a n = 0 then peekR s a n else 0

theorem Bits_any {w : World} {g : Nat} {s : ByteArray} {a : Nat} (n : Int) (h : rd w g s a) (hs : s.size ≤ 281474976710656) (ha : a ≤ 8 * s.size) :
    Calls Tryd.prog 70 #[.pointer (some ⟨g, 0, none⟩), .int .i64 n] w fun e w' => e = .returned (.tuple #[.int .i64 (bitsV s a n), .int .i64 (chk s a n)]) ∧ rd w' g s (moved s a n) ∧ Only (At g) w w' := by
  have hC := Lib.hid (check_b n h hs ha)
  by_cases hc : chk s a n = 0
  · obtain ⟨m, rfl, hm, ham⟩ := chk_ok hc ha
    have HM : Hid (moved s a m = a + m) := Lib.hid (by unfold moved; rw [if_pos hc]; rfl)
    have HV : Hid (bitsV s a m = peekR s a m) := Lib.hid (by unfold bitsV; rw [if_pos hc])
    have HC := Lib.hid hc
    clear hc h
    go_enter Tryd.func70, Tryd.ntmps70
    go_wp2_with fail
    refine hC.out.mono ?_
    rintro e w1 ⟨rfl, r1, b1⟩
    rw [HC.out]
    go_wp2_with fail
    refine (Peek_b _ r1 hs ha).mono ?_
    rintro e w2 ⟨rfl, r2, b2⟩
    have c2 := r2.c2
    have f2 := r2.f2
    go_wp2
    go_ret2
    exact ⟨ret_int2 HV.out.symm HC.out.symm, by rw [HM.out]; exact r2.store _, (Only.of_below (grows b1 b2)).store (.inl (At.self g)) _⟩
  · have HM : Hid (moved s a n = a) := Lib.hid (by unfold moved; rw [if_neg hc])
    have HV : Hid (bitsV s a n = 0) := Lib.hid (by unfold bitsV; rw [if_neg hc])
    have hd : (chk s a n != 0) = true := by simpa using hc
    clear hc h
    go_enter Tryd.func70, Tryd.ntmps70
    go_wp2_with (go_at_call 78; refine hC.out.mono ?_; rintro e w1 ⟨rfl, r1, b1⟩)
    go_ret2
    exact ⟨ret_int2 HV.out.symm rfl, by rw [HM.out]; exact r1, Only.of_below b1⟩

/-- What Bytes answers: its error, the bytes, where the reader stands then. -/
def bytE (s : ByteArray) (a : Nat) (n : Int) : Int := if n < 0 ∨ ¬ a % 8 = 0 then 1 else if (((8 * s.size - a) / 8 : Nat) : Int) < n then 2 else 0
def bytV (s : ByteArray) (a : Nat) (n : Int) : ByteArray := if bytE s a n = 0 then s.extract (a / 8) (a / 8 + n.toNat) else ⟨#[]⟩
def bytA (s : ByteArray) (a : Nat) (n : Int) : Nat := if bytE s a n = 0 then a + 8 * n.toNat else a
theorem bytE_cases (s : ByteArray) (a : Nat) (n : Int) (ha : a ≤ 8 * s.size) : (bytE s a n = 1 ∧ (n < 0 ∨ (0 ≤ n ∧ ¬ a % 8 = 0)) ∧ bytV s a n = ⟨#[]⟩ ∧ bytA s a n = a) ∨ (bytE s a n = 2 ∧ 0 ≤ n ∧ a % 8 = 0 ∧ (((8 * s.size - a) / 8 : Nat) : Int) < n ∧ bytV s a n = ⟨#[]⟩ ∧ bytA s a n = a)
    ∨ (bytE s a n = 0 ∧ ∃ p m : Nat, n = (m : Int) ∧ a = 8 * p ∧ p + m ≤ s.size ∧ bytV s a n = s.extract p (p + m) ∧ bytA s a n = 8 * p + 8 * m) := by
  have hV : ∀ e : Int, e ≠ 0 → bytE s a n = e → bytV s a n = ⟨#[]⟩ ∧ bytA s a n = a := by
    intro e he h
    unfold bytV bytA
    rw [h, if_neg he, if_neg he]
    exact ⟨rfl, rfl⟩
  by_cases h1 : n < 0 ∨ ¬ a % 8 = 0
  · have e : bytE s a n = 1 := by unfold bytE; rw [if_pos h1]
    exact .inl ⟨e, by omega, hV 1 (by decide) e⟩
  · by_cases h2 : (((8 * s.size - a) / 8 : Nat) : Int) < n
    · have e : bytE s a n = 2 := by unfold bytE; rw [if_neg h1, if_pos h2]
      exact .inr (.inl ⟨e, by omega, by omega, h2, hV 2 (by decide) e⟩)
    · have e : bytE s a n = 0 := by unfold bytE; rw [if_neg h1, if_neg h2]
      obtain ⟨m, rfl⟩ := Int.eq_ofNat_of_zero_le (show 0 ≤ n by omega)
      refine .inr (.inr ⟨e, a / 8, m, rfl, by omega, by omega, ?_, ?_⟩)
      · unfold bytV; rw [if_pos e]; rfl
      · unfold bytA; rw [if_pos e]; simp; omega
theorem bytA_le {s : ByteArray} {a : Nat} {n : Int} (ha : a ≤ 8 * s.size) : bytA s a n ≤ 8 * s.size := by
  rcases bytE_cases s a n ha with ⟨_, _, _, h⟩ | ⟨_, _, _, _, _, h⟩ | ⟨_, p, m, _, _, _, _, h⟩ <;> omega

theorem ret_si {s t : ByteArray} {k : IntKind} {a b : Int} (h : s = t) (h' : a = b) : Ending.returned (.tuple #[.string s, .int k a]) = .returned (.tuple #[.string t, .int k b]) := by rw [h, h']

end Go.Proofs.YtnkninjdpgpkmaaDoor.Bs
