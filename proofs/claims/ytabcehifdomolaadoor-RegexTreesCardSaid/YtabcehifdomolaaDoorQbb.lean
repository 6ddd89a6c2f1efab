/-
  The program's number.
  The program's take and fail as they are used; which bytes are among some.
  Conditions: as each theorem says.
-/
import Derived.Test.YtabcehifdomolaaDoorQak
import Derived.Deep.LoopGhost
namespace Go.Proofs.YtabcehifdomolaaDoor.Er
open Go.RowKit Go.PlainAid Go.Proofs.YtabcehifdomolaaDoor.Vm Go.Proofs.YtabcehifdomolaaDoor.Vo Go.Proofs.YtabcehifdomolaaDoor.Bw Go.Proofs.YtabcehifdomolaaDoor.Na Go.Proofs.YtabcehifdomolaaDoor.Tm Go.Proofs.YtabcehifdomolaaDoor.Ts Go.Proofs.YtabcehifdomolaaDoor.Ta Go.Proofs.YtabcehifdomolaaDoor.Tb Go.Proofs.YtabcehifdomolaaDoor.Tf Go.Proofs.YtabcehifdomolaaDoor.Tg Go.Proofs.YtabcehifdomolaaDoor.Rm Go.Proofs.YtabcehifdomolaaDoor.Rs Go.Proofs.YtabcehifdomolaaDoor.Ep Go.Proofs.YtabcehifdomolaaDoor.Em

/-- The parser goes on at what is left. -/
def live (w : World) (g : Nat) (s : ByteArray) (r : List Nat) : Prop := ∃ a, a ≤ s.size ∧ par w g s a 0 0 ∧ rst s a = r
/-- The parser has met an error. -/
def dead (w : World) (g : Nat) (s : ByteArray) (e k : Nat) : Prop := e ≠ 0 ∧ par w g s s.size (e : Int) ((s.size - k : Nat) : Int)
def outS {α : Type} (o : Out α) (P : α → List Nat → Prop) (D : Nat → Nat → Prop) : Prop := match o with
  | .err e k => D e k
  | .ok x r => P x r
def digB : ByteArray := ⟨#[48, 49, 50, 51, 52, 53, 54, 55, 56, 57]⟩
theorem dig_in : ∀ c < 256, inQ digB c = digQ c := by decide +kernel
theorem dig_ix : ∀ c < 256, digQ c = true → Lib.indexByte digB.data.toList (Nat.toUInt8 c) = ((c - 48 : Nat) : Int) := by decide +kernel
/-- How far a number has been read: k digits from f on, worth n. -/
def numK (s : ByteArray) (f k n : Nat) : Prop := (k = 0 ∧ n = 0) ∨ (k = 1 ∧ ∃ c, rst s f = c :: rst s (f + 1) ∧ digQ c = true ∧ n = c - 48 ∧ c < 256) ∨ (k = 2 ∧ ∃ c d, rst s f = c :: d :: rst s (f + 2) ∧ digQ c = true ∧ digQ d = true ∧ n = 10 * (c - 48) + (d - 48) ∧ c < 256 ∧ d < 256)
theorem numK_le {s : ByteArray} {f k n : Nat} (h : numK s f k n) : k ≤ 2 ∧ n ≤ 3000 ∧ f + k ≤ max f s.size := by
  rcases h with ⟨rfl, rfl⟩ | ⟨rfl, c, h1, _, h2, h3⟩ | ⟨rfl, c, d, h1, _, _, h2, h3, h4⟩
  · exact ⟨by omega, by omega, by omega⟩
  · have := rst_next h1; exact ⟨by omega, by omega, by omega⟩
  · have := rst_next h1; have := rst_next this.2.2.2; exact ⟨by omega, by omega, by omega⟩
theorem numK_next {s : ByteArray} {f k n c : Nat} (h : numK s f k n) (hk : k < 2) (hr : rst s (f + k) = c :: rst s (f + k + 1)) (hd : digQ c = true) (hc : c < 256) : numK s f (k + 1) (10 * n + (c - 48)) := by
  rcases h with ⟨rfl, rfl⟩ | ⟨rfl, c0, h1, hd1, h2, h3⟩ | ⟨rfl, _⟩
  · exact .inr (.inl ⟨rfl, c, hr, hd, by omega, hc⟩)
  · exact .inr (.inr ⟨rfl, c0, c, by rw [h1, hr], hd1, hd, by omega, h3, hc⟩)
  · omega
/-- What a number answers. -/
def numA (s : ByteArray) (g f : Nat) (n : Int) (w' : World) : Prop := outS (numP (rst s f)) (fun x r => n = (x : Int) ∧ x ≤ 3000 ∧ live w' g s r) (fun e k => n = 0 ∧ dead w' g s e k)
theorem numA_of {s : ByteArray} {g f k n : Nat} {w' : World} (h : numK s f k n) (hk : 0 < k) (hp : par w' g s (f + k) 0 0) (hx : k = 2 ∨ nxQ digB (rst s (f + k)) = false) : numA s g f n w' := by
  have hle := numK_le h
  unfold numA
  rcases h with ⟨rfl, rfl⟩ | ⟨rfl, c, h1, hd, h2, h3⟩ | ⟨rfl, c, d, h1, hd1, hd2, h2, h3, h4⟩
  · omega
  · have h4 := rst_next h1
    have hx : nxQ digB (rst s (f + 1)) = false := hx.resolve_left (by omega)
    rw [h1]
    unfold numP
    dsimp only
    rw [if_pos hd]
    cases hr : rst s (f + 1) with
    | nil => exact ⟨by rw [h2], by omega, f + 1, by omega, hp, hr⟩
    | cons d r =>
      rw [hr] at hx
      have hd' : digQ d = false := by
        have := (rst_next hr).2.1
        rw [← dig_in d this]; exact hx
      dsimp only
      rw [hd', if_neg (by decide)]
      exact ⟨by rw [h2], by omega, f + 1, by omega, hp, hr⟩
  · have h5 := rst_next h1
    have h6 := rst_next h5.2.2.2
    rw [h1]
    unfold numP
    dsimp only
    rw [if_pos hd1, if_pos hd2]
    exact ⟨by rw [h2], by omega, f + 2, by omega, hp, rfl⟩
/-- How far it is to a place. -/
def meaW (w : World) (g m : Nat) : Nat := m - (match w.cell? ⟨g, 1, none⟩ with | some (.int _ z) => z.toNat | _ => 0)
theorem meaW_par {w : World} {g : Nat} {s : ByteArray} {a : Nat} {c q : Int} (h : par w g s a c q) (m : Nat) : meaW w g m = m - a := by
  unfold meaW
  rw [h.c1]
  simp
set_option maxHeartbeats 2000000 in
set_option maxRecDepth 100000 in
theorem number_any {g : Nat} {s : ByteArray} {f : Nat} (hs : s.size ≤ 1000000) (hf : f ≤ s.size) {w : World} (H : Hid (par w g s f 0 0)) :
    Calls Tryd.prog 79 #[.pointer (some ⟨g, 0, none⟩)] w fun e w' => ∃ n : Int, e = .returned (.int .i64 n) ∧ numA s g f n w' ∧ Only (· = g) w w' := by
  have c1 := H.out.c1
  have hf' : (f : Int) ≤ 1000000 := by omega
  go_enter Tryd.func79, Tryd.ntmps79
  go_wp2
  clear c1
  go_loopw [4] (fun s4 wr => ∃ (k n : Nat), s4 = .int .i64 (n : Int) ∧ Hid (numK s f k n) ∧ Hid (par wr g s (f + k) 0 0) ∧ Hid (Only (· = g) w wr)) (fun _ wr => meaW wr g (f + 3))
  case atStart => exact ⟨0, 0, rfl, Lib.hid (.inl ⟨rfl, rfl⟩), H, Lib.hid (Only.refl _ _)⟩
  case round =>
    obtain ⟨k, n, rfl, HK, HP, HO⟩ := hrel
    obtain ⟨hk2, hn, hfk⟩ := numK_le HK.out
    have HM := Lib.hid (meaW_par HP.out (f + 3))
    obtain ⟨a, ha⟩ : ∃ a, a = f + k := ⟨_, rfl⟩
    rw [← ha] at HP HM hfk
    have HA := Lib.hid ha
    have hfa : (f : Int) ≤ (a : Int) := by omega
    have has : (a : Int) ≤ 1000000 := by omega
    have c0 := HP.out.c0
    have c1 := HP.out.c1
    have f1 := HP.out.frozen 1
    have HX : Hid (∀ m, Calls Tryd.prog 50 #[.pointer (some ⟨g, 0, none⟩), .string m] wr fun e w' => e = .returned (.bool (nxQ m (rst s a))) ∧ ∃ n, w' = wr.drewN n) := Lib.hid (fun m => next_any m HP)
    by_cases hk : k = 2
    · have h1 : ¬ (a : Int) < (f : Int) + 2 := by omega
      have h2 : ((a : Int) == (f : Int)) = false := by simp; omega
      have HR : Hid (numA s g f n wr) := Lib.hid (numA_of HK.out (by omega) (by have := HP.out; rwa [HA.out] at this) (.inl hk))
      clear ha hk
      go_wp2
      go_ret
      exact ⟨n, rfl, HR.out, HO.out⟩
    · have h1 : (a : Int) < (f : Int) + 2 := by omega
      have HK2 := Lib.hid hk
      by_cases hx : nxQ digB (rst s a) = true
      · have ha1 : a < s.size := by
          rcases Nat.lt_or_ge a s.size with h | h
          · exact h
          · rw [rst_nil h] at hx; cases hx
        obtain ⟨c, hc, hr, hbt⟩ := rst_cons ha1
        have hd : digQ c = true := by rw [← dig_in c hc]; rw [hr] at hx; exact hx
        have hix : (a : Int) < (s.size : Int) := by omega
        have ha0 : (0 : Int) ≤ (a : Int) := by omega
        have hb := get_bt s
        have HI : Hid (∀ w, Calls Tryd.prog 55 #[.string digB, .int .u8 c] w fun e w' => e = .returned (.int .i64 ((c - 48 : Nat) : Int)) ∧ w' = w) := Lib.hid (fun w => (Index_of digB c w).mono fun e w' ⟨h, k⟩ => ⟨by rw [h, dig_ix c hc hd], k.symm⟩)
        have HN : Hid (numK s f (k + 1) (10 * n + (c - 48))) := Lib.hid (numK_next HK.out (by omega) (by rw [← ha]; exact hr) hd hc)
        obtain ⟨y, hy⟩ : ∃ y, y = c - 48 := ⟨_, rfl⟩
        rw [← hy] at HI HN
        have hy1 : y ≤ 300 := by omega
        have HXT : Hid (nxQ digB (rst s a) = true) := Lib.hid hx
        have HA1 := Lib.hid ha1
        have HXX := Lib.hid (HX.out digB)
        rw [hx] at HXX
        clear ha hk hx hr hd hy ha1 hc
        go_wp2_with (first | (go_at_call 50; refine HXX.out.mono ?_; rintro e w1 ⟨rfl, m, hw1⟩; have HP1 : Hid (par w1 g s a 0 0) := Lib.hid (by rw [hw1]; exact HP.out.draws m); have HO1 : Hid (Only (· = g) w w1) := Lib.hid (by rw [hw1]; exact HO.out.draws m); clear hw1; have d0 := HP1.out.c0; have d1 := HP1.out.c1; have g1 := HP1.out.frozen 1))
        go_quiet (first | (go_at_call 55; exact Calls.quiet_of_same (HI.out _)))
        obtain ⟨w2, hw2⟩ : ∃ w2, w2 = w1.drewN nq := ⟨_, rfl⟩
        have HP2 : Hid (par w2 g s a 0 0) := Lib.hid (by rw [hw2]; exact HP1.out.draws nq)
        have HO2 : Hid (Only (· = g) w w2) := Lib.hid (by rw [hw2]; exact HO1.out.draws nq)
        try rw [← hw2]
        clear hw2 d0 d1 g1
        have d1 := HP2.out.c1
        have g1 := HP2.out.frozen 1
        simp only [Exit.then]
        go_wp2
        go_roundw
        case rel => exact ⟨k + 1, 10 * n + y, congrArg (Value.int IntKind.i64) (by omega), HN, Lib.hid (by have := HP2.out.step; rw [show f + (k + 1) = a + 1 by have := HA.out; omega]; exact this), Lib.hid (HO2.out.store (p := ⟨g, 1, none⟩) (.inl rfl) _)⟩
        case measure => rw [HM.out, meaW_par HP2.out.step (f + 3)]; have := HA.out; have := HK2.out; omega
      · have hxf : nxQ digB (rst s a) = false := by simpa using hx
        have HXX := Lib.hid (HX.out digB)
        rw [hxf] at HXX
        by_cases hk0 : k = 0
        · subst hk0
          clear hfa
          obtain rfl : a = f := by omega
          have hn0 : n = 0 := by
            rcases HK.out with ⟨_, h⟩ | ⟨h, _⟩ | ⟨h, _⟩
            · exact h
            · cases h
            · cases h
          subst hn0
          have HR : Hid (∀ w', par w' g s s.size 15 (a : Int) → numA s g a 0 w') := Lib.hid (fun w' hp => by
            unfold numA
            have hle := rst_len s a
            cases hr : rst s a with
            | nil =>
              rw [hr] at hle
              refine ⟨rfl, by decide, ?_⟩
              have e1 : s.size = a := by simp at hle; omega
              rw [show ((s.size - 0 : Nat) : Int) = (a : Int) by omega]
              exact hp
            | cons c r =>
              rw [hr] at hle hxf
              have hd : digQ c = false := by rw [← dig_in c (rst_next hr).2.1]; exact hxf
              unfold numP
              dsimp only
              rw [hd, if_neg (by decide)]
              refine ⟨rfl, by decide, ?_⟩
              rw [List.length_cons] at hle
              rw [show ((s.size - (r.length + 1) : Nat) : Int) = (a : Int) by omega]
              exact hp)
          clear hx hxf ha HA hfk
          go_wp2_with (first | (go_at_call 50; refine HXX.out.mono ?_; rintro e w1 ⟨rfl, m, hw1⟩; have HP1 : Hid (par w1 g s a 0 0) := Lib.hid (by rw [hw1]; exact HP.out.draws m); have HO1 : Hid (Only (· = g) w w1) := Lib.hid (by rw [hw1]; exact HO.out.draws m); clear hw1; have d1 := HP1.out.c1; have HF := Lib.hid (fail_any 15 (a : Int) HP1)) | (go_at_call 23; refine HF.out.mono ?_; rintro e w2 ⟨rfl, p2, o2⟩; have HP2 := Lib.hid p2; have HO2 := Lib.hid (HO1.out.trans o2); clear p2 o2))
          go_ret
          exact ⟨0, rfl, HR.out _ (by have := HP2.out; simpa using this), HO2.out⟩
        · have h2 : ((a : Int) == (f : Int)) = false := by simp; omega
          have HR : Hid (∀ w', par w' g s a 0 0 → numA s g f n w') := Lib.hid (fun w' hp => numA_of HK.out (by omega) (by rw [← ha]; exact hp) (.inr (by rw [← ha]; exact hxf)))
          clear hx hxf
          go_wp2_with (go_at_call 50; refine HXX.out.mono ?_; rintro e w1 ⟨rfl, m, hw1⟩; have HP1 : Hid (par w1 g s a 0 0) := Lib.hid (by rw [hw1]; exact HP.out.draws m); have HO1 : Hid (Only (· = g) w w1) := Lib.hid (by rw [hw1]; exact HO.out.draws m); clear hw1; have d1 := HP1.out.c1; have HF := Lib.hid (fail_any 15 (a : Int) HP1))
          go_ret
          exact ⟨n, rfl, HR.out _ HP1.out, HO1.out⟩
end Go.Proofs.YtabcehifdomolaaDoor.Er
namespace Go.Proofs.YtabcehifdomolaaDoor.Eo
open Go.RowKit Go.PlainAid Go.Proofs.YtabcehifdomolaaDoor.Vm Go.Proofs.YtabcehifdomolaaDoor.Vo Go.Proofs.YtabcehifdomolaaDoor.Bw Go.Proofs.YtabcehifdomolaaDoor.Na Go.Proofs.YtabcehifdomolaaDoor.Tm Go.Proofs.YtabcehifdomolaaDoor.Ta Go.Proofs.YtabcehifdomolaaDoor.Tb Go.Proofs.YtabcehifdomolaaDoor.Tf Go.Proofs.YtabcehifdomolaaDoor.Rm Go.Proofs.YtabcehifdomolaaDoor.Rs Go.Proofs.YtabcehifdomolaaDoor.Ep Go.Proofs.YtabcehifdomolaaDoor.Em Go.Proofs.YtabcehifdomolaaDoor.Er

theorem in_44 : ∀ c < 256, inQ ⟨#[44]⟩ c = decide (c = 44) := by decide +kernel
theorem in_125 : ∀ c < 256, inQ ⟨#[125]⟩ c = decide (c = 125) := by decide +kernel
theorem in_124 : ∀ c < 256, inQ ⟨#[124]⟩ c = decide (c = 124) := by decide +kernel
theorem in_41 : ∀ c < 256, inQ ⟨#[41]⟩ c = decide (c = 41) := by decide +kernel
theorem in_93 : ∀ c < 256, inQ ⟨#[93]⟩ c = decide (c = 93) := by decide +kernel
theorem in_45 : ∀ c < 256, inQ ⟨#[45]⟩ c = decide (c = 45) := by decide +kernel
theorem in_94 : ∀ c < 256, inQ ⟨#[94]⟩ c = decide (c = 94) := by decide +kernel
theorem in_42 : ∀ c < 256, inQ ⟨#[42]⟩ c = decide (c = 42) := by decide +kernel
theorem in_43 : ∀ c < 256, inQ ⟨#[43]⟩ c = decide (c = 43) := by decide +kernel
theorem in_63 : ∀ c < 256, inQ ⟨#[63]⟩ c = decide (c = 63) := by decide +kernel
theorem in_123 : ∀ c < 256, inQ ⟨#[123]⟩ c = decide (c = 123) := by decide +kernel
theorem in_cat : ∀ c < 256, inQ ⟨#[124, 41]⟩ c = decide (c = 124 ∨ c = 41) := by decide +kernel
/-- What is left of a text is bytes. -/
theorem rst_lt {s : ByteArray} {a c : Nat} {r : List Nat} (h : rst s a = c :: r) : c < 256 := (rst_next h).2.1
theorem nx_yes {s : ByteArray} {a c : Nat} {r : List Nat} {m : ByteArray} {P : Nat → Prop} [DecidablePred P] (hm : ∀ c < 256, inQ m c = decide (P c)) (h : rst s a = c :: r) (hc : P c) : nxQ m (rst s a) = true := by
  rw [h]; show inQ m c = true; rw [hm c (rst_lt h)]; exact decide_eq_true hc
theorem nx_no {s : ByteArray} {a c : Nat} {r : List Nat} {m : ByteArray} {P : Nat → Prop} [DecidablePred P] (hm : ∀ c < 256, inQ m c = decide (P c)) (h : rst s a = c :: r) (hc : ¬ P c) : nxQ m (rst s a) = false := by
  rw [h]; show inQ m c = false; rw [hm c (rst_lt h)]; exact decide_eq_false hc
theorem nx_end {s : ByteArray} {a : Nat} {m : ByteArray} (h : rst s a = []) : nxQ m (rst s a) = false := by rw [h]; rfl
section
variable {g : Nat} {s : ByteArray} {a : Nat} {c q : Int} {m : ByteArray} {w : World}
theorem next_is {b : Bool} (h : nxQ m (rst s a) = b) (H : par w g s a c q) :
    Calls Tryd.prog 50 #[.pointer (some ⟨g, 0, none⟩), .string m] w fun e w' => e = .returned (.bool b) ∧ par w' g s a c q ∧ Only (· = g) w w' := by
  refine (next_any m (Lib.hid H)).mono ?_
  rintro e w' ⟨rfl, n, rfl⟩
  exact ⟨by rw [h], H.draws n, (Only.refl _ _).draws n⟩
theorem take_yes (hs : s.size ≤ 1000000) (ha : a ≤ s.size) (h : nxQ m (rst s a) = true) (H : par w g s a c q) :
    Calls Tryd.prog 34 #[.pointer (some ⟨g, 0, none⟩), .string m] w fun e w' => e = .returned (.bool true) ∧ par w' g s (a + 1) c q ∧ Only (· = g) w w' := by
  have := take_any hs ha m (Lib.hid H)
  rw [h] at this
  exact this
theorem take_no (hs : s.size ≤ 1000000) (ha : a ≤ s.size) (h : nxQ m (rst s a) = false) (H : par w g s a c q) :
    Calls Tryd.prog 34 #[.pointer (some ⟨g, 0, none⟩), .string m] w fun e w' => e = .returned (.bool false) ∧ par w' g s a c q ∧ Only (· = g) w w' := by
  have := take_any hs ha m (Lib.hid H)
  rw [h] at this
  exact this
theorem fail_first (e z : Int) (H : par w g s a 0 0) :
    Calls Tryd.prog 23 #[.pointer (some ⟨g, 0, none⟩), .int .i64 e, .int .i64 z] w fun r w' => r = .returned (.tuple #[]) ∧ par w' g s s.size e z ∧ Only (· = g) w w' := by
  have := fail_any e z (Lib.hid H)
  exact this
theorem fail_late (e z : Int) (hc : c ≠ 0) (H : par w g s a c q) :
    Calls Tryd.prog 23 #[.pointer (some ⟨g, 0, none⟩), .int .i64 e, .int .i64 z] w fun r w' => r = .returned (.tuple #[]) ∧ par w' g s s.size c q ∧ Only (· = g) w w' := by
  have := fail_any e z (Lib.hid H)
  rw [if_neg hc, if_neg hc] at this
  exact this
end
theorem rst_size (s : ByteArray) : rst s s.size = [] := rst_nil (Nat.le_refl _)
/-- The place of an error. -/
theorem dead_at {w : World} {g : Nat} {s : ByteArray} {e a k : Nat} (he : e ≠ 0) (h : par w g s s.size (e : Int) (a : Int)) (hk : a + k = s.size) : dead w g s e k := ⟨he, by rw [show s.size - k = a by omega]; exact h⟩
end Go.Proofs.YtabcehifdomolaaDoor.Eo
