/-
  The reference's reader (collimatorref04): New and its methods: their results, the reader behind them; of what was there only the reader has changed.
  Conditions: as each theorem says.
-/
import Derived.Test.YtnkninjdpgpkmaaGreatDoorBay
import Derived.Deep.LoopGhost
namespace Go.Proofs.YtnkninjdpgpkmaaGreatDoor.Bq
open Go.RowKit Go.Proofs.YtnkninjdpgpkmaaGreatDoor.Vm Go.Proofs.YtnkninjdpgpkmaaGreatDoor.Vo Go.Proofs.YtnkninjdpgpkmaaGreatDoor.Bm Go.Proofs.YtnkninjdpgpkmaaGreatDoor.Bt Go.Proofs.YtnkninjdpgpkmaaGreatDoor.Bw Go.Proofs.YtnkninjdpgpkmaaGreatDoor.Br Go.Proofs.YtnkninjdpgpkmaaGreatDoor.Bp Go.Proofs.YtnkninjdpgpkmaaGreatDoor.Bs Go.PlainAid

theorem rNew_ok (s : ByteArray) (a : Nat) (w : World) (hs : s.size ≤ 281474976710656) (ha : a ≤ 8 * s.size) :
    Calls Tryz.prog 31 #[.string s, .int .i64 a] w fun e w' => ∃ g, e = .returned (.tuple #[.pointer (some ⟨g, 0, none⟩), .int .i64 0]) ∧ rr w' g s a ∧ g = w.heap.size ∧ Below w.heap.size w w' := by
  go_enter Tryz.func31, Tryz.ntmps31
  go_wp2
  go_ret2
  exact ⟨_, rfl, Blk.fresh w 75 _, rfl, (Below.refl _ _).alloc (Nat.le_refl _) _⟩
theorem rNew_no (s : ByteArray) (a : Int) (w : World) (hs : s.size ≤ 281474976710656) (ha : a < 0 ∨ 8 * (s.size : Int) < a) :
    Calls Tryz.prog 31 #[.string s, .int .i64 a] w fun e w' => ∃ g, e = .returned (.tuple #[.pointer (some ⟨g, 0, none⟩), .int .i64 1]) ∧ Below w.heap.size w w' := by
  rcases ha with ha | ha
  all_goals
    go_enter Tryz.func31, Tryz.ntmps31
    go_wp2
    go_ret2
    exact ⟨_, rfl, (Below.refl _ _).alloc (Nat.le_refl _) _⟩

theorem rLeft_any {w : World} {g : Nat} {s : ByteArray} {a : Nat} (h : rr w g s a) (hs : s.size ≤ 281474976710656) (ha : a ≤ 8 * s.size) :
    Calls Tryz.prog 103 #[.pointer (some ⟨g, 0, none⟩)] w fun e w' => e = .returned (.int .i64 ((8 * s.size - a : Nat) : Int)) ∧ ∃ n, w' = w.drewN n := by
  have c1 := h.c0
  have c2 := h.c1
  go_enter Tryz.func103, Tryz.ntmps103
  go_wp2
  go_quiet (fail)
  go_wp2
  go_ret
  exact ⟨ret_int (by go_num), _, rfl⟩
theorem rLeft_b {w : World} {g : Nat} {s : ByteArray} {a : Nat} (h : rr w g s a) (hs : s.size ≤ 281474976710656) (ha : a ≤ 8 * s.size) :
    Calls Tryz.prog 103 #[.pointer (some ⟨g, 0, none⟩)] w fun e w' => e = .returned (.int .i64 ((8 * s.size - a : Nat) : Int)) ∧ rr w' g s a ∧ Below w.heap.size w w' :=
  (rLeft_any h hs ha).mono fun _ _ ⟨he, k, hk⟩ => ⟨he, by rw [hk]; exact h.draws k, by rw [hk]; exact below_draws w k⟩
theorem rPeek_b {w : World} {g : Nat} {s : ByteArray} {a : Nat} (n : Int) (h : rr w g s a) (hs : s.size ≤ 281474976710656) (ha : a ≤ 8 * s.size) :
    Calls Tryz.prog 101 #[.pointer (some ⟨g, 0, none⟩), .int .i64 n] w fun e w' => e = .returned (.int .i64 (peekR s a n)) ∧ rr w' g s a ∧ Below w.heap.size w w' :=
  (rPeek_any n h hs ha).mono fun _ _ ⟨he, k, hk⟩ => ⟨he, by rw [hk]; exact h.draws k, by rw [hk]; exact below_draws w k⟩

theorem chk_cases (s : ByteArray) (a : Nat) (n : Int) : (chk s a n = 1 ∧ (n < 0 ∨ 32 < n)) ∨ (chk s a n = 2 ∧ 0 ≤ n ∧ n ≤ 32 ∧ ((8 * s.size - a : Nat) : Int) < n) ∨ (chk s a n = 0 ∧ 0 ≤ n ∧ n ≤ 32 ∧ ¬ ((8 * s.size - a : Nat) : Int) < n) := by
  by_cases hc : cnt n = true
  · have hn : 0 ≤ n ∧ n ≤ 32 := by simpa [cnt] using hc
    by_cases hl : ((8 * s.size - a : Nat) : Int) < n
    · exact .inr (.inl ⟨by unfold chk; rw [if_pos hc, if_pos hl], hn.1, hn.2, hl⟩)
    · exact .inr (.inr ⟨by unfold chk; rw [if_pos hc, if_neg hl], hn.1, hn.2, hl⟩)
  · refine .inl ⟨by unfold chk; rw [if_neg hc], ?_⟩
    simp [cnt] at hc
    omega

theorem rSkip_any {w : World} {g : Nat} {s : ByteArray} {a : Nat} (n : Int) (h : rr w g s a) (hs : s.size ≤ 281474976710656) (ha : a ≤ 8 * s.size) :
    Calls Tryz.prog 102 #[.pointer (some ⟨g, 0, none⟩), .int .i64 n] w fun e w' => e = .returned (.int .i64 (chk s a n)) ∧ rr w' g s (moved s a n) ∧ Only (At g) w w' := by
  have hL := Lib.hid (rLeft_b h hs ha)
  have H := Lib.hid h
  clear h
  rcases chk_cases s a n with ⟨hc, hn⟩ | ⟨hc, hn0, hn1, hl⟩ | ⟨hc, hn0, hn1, hl⟩
  · have HM : Hid (moved s a n = a) := Lib.hid (by unfold moved; rw [hc, if_neg (by decide)])
    have HC := Lib.hid hc
    clear hc
    rcases hn with hn | hn
    all_goals
      go_enter Tryz.func102, Tryz.ntmps102
      go_wp2
      go_ret
      exact ⟨ret_int HC.out.symm, by rw [HM.out]; exact H.out, Only.refl _ _⟩
  · have HM : Hid (moved s a n = a) := Lib.hid (by unfold moved; rw [hc, if_neg (by decide)])
    have HC := Lib.hid hc
    clear hc
    have hd : decide (((8 * s.size - a : Nat) : Int) < n) = true := by simpa using hl
    generalize 8 * s.size - a = L at *
    clear hl ha
    go_enter Tryz.func102, Tryz.ntmps102
    go_wp2_with (go_at_call 103; refine hL.out.mono ?_; rintro e w1 ⟨rfl, r1, b1⟩)
    go_ret
    exact ⟨ret_int HC.out.symm, by rw [HM.out]; exact r1, Only.of_below b1⟩
  · obtain ⟨m, rfl, hm, ham⟩ := chk_ok hc ha
    have HM : Hid (moved s a m = a + m) := Lib.hid (by unfold moved; rw [hc, if_pos rfl]; rfl)
    have HC := Lib.hid hc
    clear hc
    have hd : decide (((8 * s.size - a : Nat) : Int) < (m : Int)) = false := by simp; omega
    clear hl
    go_enter Tryz.func102, Tryz.ntmps102
    go_wp2_with (go_at_call 103; refine hL.out.mono ?_; rintro e w1 ⟨rfl, r1, b1⟩; have c1 := r1.c1; have f1 := r1.f1)
    all_goals try (exfalso; omega)
    go_ret
    exact ⟨ret_int HC.out.symm, by rw [HM.out]; exact rr_put r1 (by omega), (Only.of_below b1).store (.inl (At.self g)) _⟩

theorem rBits_any {w : World} {g : Nat} {s : ByteArray} {a : Nat} (n : Int) (h : rr w g s a) (hs : s.size ≤ 281474976710656) (ha : a ≤ 8 * s.size) :
    Calls Tryz.prog 65 #[.pointer (some ⟨g, 0, none⟩), .int .i64 n] w fun e w' => e = .returned (.tuple #[.int .i64 (bitsV s a n), .int .i64 (chk s a n)]) ∧ rr w' g s (moved s a n) ∧ Only (At g) w w' := by
  have hP := Lib.hid (rPeek_b n h hs ha)
  clear h
  by_cases hc : chk s a n = 0
  · have HV : Hid (bitsV s a n = peekR s a n) := Lib.hid (by unfold bitsV; rw [if_pos hc])
    have HC := Lib.hid hc
    clear hc
    go_enter Tryz.func65, Tryz.ntmps65
    go_wp2_with fail
    refine hP.out.mono ?_
    rintro e w1 ⟨rfl, r1, b1⟩
    go_wp2_with fail
    refine (rSkip_any _ r1 hs ha).mono ?_
    rintro e w2 ⟨rfl, r2, b2⟩
    rw [HC.out]
    go_wp2
    go_ret2
    exact ⟨ret_int2 HV.out.symm HC.out.symm, r2, (Only.of_below b1).trans b2⟩
  · have HV : Hid (bitsV s a n = 0) := Lib.hid (by unfold bitsV; rw [if_neg hc])
    have hd : (chk s a n != 0) = true := by simpa using hc
    clear hc
    go_enter Tryz.func65, Tryz.ntmps65
    go_wp2_with fail
    refine hP.out.mono ?_
    rintro e w1 ⟨rfl, r1, b1⟩
    go_wp2_with fail
    refine (rSkip_any _ r1 hs ha).mono ?_
    rintro e w2 ⟨rfl, r2, b2⟩
    go_wp2
    go_ret2
    exact ⟨ret_int2 HV.out.symm rfl, r2, (Only.of_below b1).trans b2⟩

theorem rAlign_any {w : World} {g : Nat} {s : ByteArray} {a : Nat} (h : rr w g s a) (hs : s.size ≤ 281474976710656) (ha : a ≤ 8 * s.size) :
    Calls Tryz.prog 134 #[.pointer (some ⟨g, 0, none⟩)] w fun e w' => e = .returned (.tuple #[]) ∧ rr w' g s ((a + 7) / 8 * 8) ∧ Only (At g) w w' := by
  have H := Lib.hid h
  clear h
  go_enter Tryz.func134, Tryz.ntmps134
  go_wp2
  go_loopg [] ((a + 7) / 8 * 8 - a) (fun k wr => ∃ b : Nat, a ≤ b ∧ b ≤ (a + 7) / 8 * 8 ∧ Hid (k = (a + 7) / 8 * 8 - b) ∧ Hid (rr wr g s b) ∧ Only (At g) w wr)
  case atStart => exact ⟨a, by omega, by omega, Lib.hid rfl, H, Only.refl _ _⟩
  case round =>
    obtain ⟨b, hb0, hb1, HK, HR, o1⟩ := hrel
    have c1 := HR.out.c1
    have f1 := HR.out.f1
    by_cases hb : b % 8 = 0
    · have hd : ((b : Int) % 8 != 0) = false := by simp; omega
      have HB : Hid (b = (a + 7) / 8 * 8) := Lib.hid (by omega)
      clear hb
      go_wp2
      go_end0
      exact ⟨rfl, by rw [← HB.out]; exact HR.out, o1⟩
    · have hd : ((b : Int) % 8 != 0) = true := by simp; omega
      have HB := Lib.hid (show b + 1 ≤ (a + 7) / 8 * 8 by omega)
      clear hb
      go_wp2
      go_roundg (gk - 1)
      case measure => have := HB.out; have := HK.out; omega
      case rel => exact ⟨b + 1, by omega, HB.out, Lib.hid (by have := HK.out; omega), Lib.hid (rr_put HR.out (by omega)), o1.store (.inl (At.self g)) _⟩

end Go.Proofs.YtnkninjdpgpkmaaGreatDoor.Bq
