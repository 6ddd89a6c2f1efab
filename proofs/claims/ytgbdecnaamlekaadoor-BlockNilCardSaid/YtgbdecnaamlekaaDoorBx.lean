/-
  bitrow's Open and the writer's methods, called with a writer that Open made: their results, the bits behind them; of what was there only the writer and its bytes have changed.
  Conditions: as each theorem says.
-/
import Derived.Test.YtgbdecnaamlekaaDoorBv
import Derived.Test.YtgbdecnaamlekaaDoorBa
namespace Go.Proofs.YtgbdecnaamlekaaDoor.Bx
open Go.RowKit Go.Proofs.YtgbdecnaamlekaaDoor.Ba Go.Proofs.YtgbdecnaamlekaaDoor.Vm Go.Proofs.YtgbdecnaamlekaaDoor.Vo Go.Proofs.YtgbdecnaamlekaaDoor.Bm Go.Proofs.YtgbdecnaamlekaaDoor.Bo Go.Proofs.YtgbdecnaamlekaaDoor.Bt Go.Proofs.YtgbdecnaamlekaaDoor.Bw Go.Proofs.YtgbdecnaamlekaaDoor.Br Go.Proofs.YtgbdecnaamlekaaDoor.Bv

theorem highest_any (base : Nat) {w : World} {g : Nat} {v : Value} {l : List UInt8} {z : Nat} (x n : Nat) (h : wt base w g v l z) (hb : base ≤ w.heap.size) (hx : x < 2 ^ n) (hn : n ≤ 32) (hz : z ≤ 562949953421312) :
    Calls Tryd.prog 95 #[.pointer (some ⟨g, 0, none⟩), .int .i64 x, .int .i64 n] w fun e w' => e = .returned (.tuple #[]) ∧ ∃ v' l', wt base w' g v' l' (z + n) ∧ num l' = num l + turnN x n * 2 ^ z ∧ Only (own g v) w w' ∧ later w v v' := by
  have HT : Hid (turnR x n = (turnN x n : Nat)) := Lib.hid (by
    have h1 : 2 ^ n ≤ 2 ^ 32 := Nat.pow_le_pow_right (by omega) hn
    unfold turnR
    rw [if_pos (by simp [cnt]; omega)]
    rw [show ((x : Int) % 18446744073709551616).toNat = x by omega]
    rfl)
  have hC := Lib.hid (lowest_any base (turnN x n) n h hb (turnN_lt x n) hn hz)
  go_enter Tryd.func95, Tryd.ntmps95
  go_wp2_with (first | (go_at_call 106; refine (Turn_any _ _ _).mono ?_; rintro e w' ⟨rfl, rfl⟩; rw [HT.out]) | (go_at_call 40; refine hC.out.mono ?_; rintro e w1 ⟨rfl, hp⟩))
  go_end0
  exact ⟨rfl, hp⟩

/-- What Put and Code answer. -/
def putE (x n : Int) : Int := if cnt n = true ∧ x / 2 ^ n.toNat = 0 then 0 else 1
theorem putE_cases (x n : Int) : (putE x n = 1 ∧ cnt n = false) ∨ (putE x n = 1 ∧ cnt n = true ∧ ∃ m : Nat, n = (m : Int) ∧ m ≤ 32 ∧ ¬ x / 2 ^ m = 0) ∨ (putE x n = 0 ∧ cnt n = true ∧ ∃ y m : Nat, x = (y : Int) ∧ n = (m : Int) ∧ m ≤ 32 ∧ y < 2 ^ m) := by
  by_cases hc : cnt n = true
  · have hn : 0 ≤ n ∧ n ≤ 32 := by simpa [cnt] using hc
    obtain ⟨m, rfl⟩ := Int.eq_ofNat_of_zero_le hn.1
    by_cases hx : x / 2 ^ m = 0
    · refine .inr (.inr ⟨by unfold putE; rw [if_pos ⟨hc, by simpa using hx⟩], hc, ?_⟩)
      have hp : (0 : Int) < 2 ^ m := Int.pow_pos (by omega)
      have h0 : 0 ≤ x := by
        rcases Int.lt_or_le x 0 with h | h
        · have := Int.ediv_neg_of_neg_of_pos h hp; omega
        · exact h
      obtain ⟨y, rfl⟩ := Int.eq_ofNat_of_zero_le h0
      refine ⟨y, m, rfl, rfl, by omega, ?_⟩
      have e : (y : Int) / 2 ^ m = ((y / 2 ^ m : Nat) : Int) := by simp
      exact Nat.lt_of_div_eq_zero (Nat.two_pow_pos m) (by rw [e] at hx; omega)
    · exact .inr (.inl ⟨by unfold putE; rw [if_neg (fun h => hx (by simpa using h.2))], hc, m, rfl, by omega, hx⟩)
  · exact .inl ⟨by unfold putE; rw [if_neg (fun h => hc h.1)], by simpa using hc⟩

theorem number_low {w : World} {g : Nat} {v : Value} {z : Nat} {Q : World → Prop} (x n : Int) (h : wb w g v z)
    (hf : ∀ y m : Nat, x = (y : Int) → n = (m : Int) → m ≤ 32 → y < 2 ^ m → Calls Tryd.prog 40 #[.pointer (some ⟨g, 0, none⟩), .int .i64 y, .int .i64 m] w fun e w' => e = .returned (.tuple #[]) ∧ Q w') :
    Calls Tryd.prog 39 #[.pointer (some ⟨g, 0, none⟩), .int .i64 x, .int .i64 n, .func (.func 40) #[.pointer (some ⟨g, 0, none⟩)] #[]] w fun e w' => e = .returned (.int .i64 (putE x n)) ∧ ((putE x n = 1 ∧ w = w') ∨ (putE x n = 0 ∧ Q w')) := by
  have hN := Lib.hid (wNone_any h)
  clear h
  rcases putE_cases x n with ⟨he, hc⟩ | ⟨he, hc, m, rfl, hm, hx⟩ | ⟨he, hc, y, m, rfl, rfl, hm, hy⟩
  · have HE := Lib.hid he
    clear he hf
    go_enter Tryd.func39, Tryd.ntmps39
    go_wp2_with (first | (go_at_call 49; refine hN.out.mono ?_; rintro e w' ⟨rfl, rfl⟩) | (go_at_call 60; refine (isCount_any _ _).mono ?_; rintro e w' ⟨rfl, rfl⟩))
    go_ret
    exact ⟨ret_int HE.out.symm, .inl ⟨HE.out, rfl⟩⟩
  · have HE := Lib.hid he
    have hd : (x / 2 ^ m != 0) = true := by simpa using hx
    clear he hf hx
    go_enter Tryd.func39, Tryd.ntmps39
    go_wp2_with (first | (go_at_call 49; refine hN.out.mono ?_; rintro e w' ⟨rfl, rfl⟩) | (go_at_call 60; refine (isCount_any _ _).mono ?_; rintro e w' ⟨rfl, rfl⟩))
    go_ret
    exact ⟨ret_int HE.out.symm, .inl ⟨HE.out, rfl⟩⟩
  · have HE := Lib.hid he
    have hF := Lib.hid (hf y m rfl rfl hm hy)
    have hd : ((y : Int) / 2 ^ m != 0) = false := by
      have : (y : Int) / 2 ^ m = ((y / 2 ^ m : Nat) : Int) := by simp
      rw [this, Nat.div_eq_of_lt hy]; rfl
    clear he hf hy
    go_enter Tryd.func39, Tryd.ntmps39
    go_wp2_with (first | (go_at_call 49; refine hN.out.mono ?_; rintro e w' ⟨rfl, rfl⟩) | (go_at_call 60; refine (isCount_any _ _).mono ?_; rintro e w' ⟨rfl, rfl⟩) | (go_at_call 40; refine hF.out.mono ?_; rintro e w1 ⟨rfl, hq⟩))
    go_ret
    exact ⟨ret_int HE.out.symm, .inr ⟨HE.out, hq⟩⟩

theorem number_high {w : World} {g : Nat} {v : Value} {z : Nat} {Q : World → Prop} (x n : Int) (h : wb w g v z)
    (hf : ∀ y m : Nat, x = (y : Int) → n = (m : Int) → m ≤ 32 → y < 2 ^ m → Calls Tryd.prog 95 #[.pointer (some ⟨g, 0, none⟩), .int .i64 y, .int .i64 m] w fun e w' => e = .returned (.tuple #[]) ∧ Q w') :
    Calls Tryd.prog 39 #[.pointer (some ⟨g, 0, none⟩), .int .i64 x, .int .i64 n, .func (.func 95) #[.pointer (some ⟨g, 0, none⟩)] #[]] w fun e w' => e = .returned (.int .i64 (putE x n)) ∧ ((putE x n = 1 ∧ w = w') ∨ (putE x n = 0 ∧ Q w')) := by
  have hN := Lib.hid (wNone_any h)
  clear h
  rcases putE_cases x n with ⟨he, hc⟩ | ⟨he, hc, m, rfl, hm, hx⟩ | ⟨he, hc, y, m, rfl, rfl, hm, hy⟩
  · have HE := Lib.hid he
    clear he hf
    go_enter Tryd.func39, Tryd.ntmps39
    go_wp2_with (first | (go_at_call 49; refine hN.out.mono ?_; rintro e w' ⟨rfl, rfl⟩) | (go_at_call 60; refine (isCount_any _ _).mono ?_; rintro e w' ⟨rfl, rfl⟩))
    go_ret
    exact ⟨ret_int HE.out.symm, .inl ⟨HE.out, rfl⟩⟩
  · have HE := Lib.hid he
    have hd : (x / 2 ^ m != 0) = true := by simpa using hx
    clear he hf hx
    go_enter Tryd.func39, Tryd.ntmps39
    go_wp2_with (first | (go_at_call 49; refine hN.out.mono ?_; rintro e w' ⟨rfl, rfl⟩) | (go_at_call 60; refine (isCount_any _ _).mono ?_; rintro e w' ⟨rfl, rfl⟩))
    go_ret
    exact ⟨ret_int HE.out.symm, .inl ⟨HE.out, rfl⟩⟩
  · have HE := Lib.hid he
    have hF := Lib.hid (hf y m rfl rfl hm hy)
    have hd : ((y : Int) / 2 ^ m != 0) = false := by
      have : (y : Int) / 2 ^ m = ((y / 2 ^ m : Nat) : Int) := by simp
      rw [this, Nat.div_eq_of_lt hy]; rfl
    clear he hf hy
    go_enter Tryd.func39, Tryd.ntmps39
    go_wp2_with (first | (go_at_call 49; refine hN.out.mono ?_; rintro e w' ⟨rfl, rfl⟩) | (go_at_call 60; refine (isCount_any _ _).mono ?_; rintro e w' ⟨rfl, rfl⟩) | (go_at_call 95; refine hF.out.mono ?_; rintro e w1 ⟨rfl, hq⟩))
    go_ret
    exact ⟨ret_int HE.out.symm, .inr ⟨HE.out, hq⟩⟩

/-- The bits behind Put and Code. -/
def putZ (z : Nat) (x n : Int) : Nat := if putE x n = 0 then z + n.toNat else z
def putN (N z : Nat) (x n : Int) : Nat := if putE x n = 0 then N + x.toNat * 2 ^ z else N
def codeN (N z : Nat) (x n : Int) : Nat := if putE x n = 0 then N + turnN x.toNat n.toNat * 2 ^ z else N

theorem Put_any (base : Nat) {w : World} {g : Nat} {v : Value} {l : List UInt8} {z : Nat} (x n : Int) (h : wt base w g v l z) (hb : base ≤ w.heap.size) (hz : z ≤ 562949953421312) :
    Calls Tryd.prog 19 #[.pointer (some ⟨g, 0, none⟩), .int .i64 x, .int .i64 n] w fun e w' => e = .returned (.int .i64 (putE x n)) ∧ ∃ v' l', wt base w' g v' l' (putZ z x n) ∧ num l' = putN (num l) z x n ∧ Only (own g v) w w' ∧ later w v v' := by
  have hC := Lib.hid (number_low (Q := fun w' => ∃ v' l', wt base w' g v' l' (putZ z x n) ∧ num l' = putN (num l) z x n ∧ Only (own g v) w w' ∧ later w v v') x n h.b (fun y m hx hn hm hy => by
    subst hx; subst hn
    by_cases he : putE y m = 0
    · unfold putZ putN
      rw [if_pos he, if_pos he]
      exact lowest_any base y m h hb hy hm hz
    · exfalso
      rcases putE_cases y m with ⟨_, hc⟩ | ⟨_, _, m', hm', _, hne⟩ | ⟨h0, _⟩
      · simp [cnt] at hc; omega
      · obtain rfl : m = m' := by omega
        have e : (y : Int) / 2 ^ m = ((y / 2 ^ m : Nat) : Int) := by simp
        rw [e, Nat.div_eq_of_lt hy] at hne
        exact hne rfl
      · exact he h0))
  have H := Lib.hid h
  clear h
  go_enter Tryd.func19, Tryd.ntmps19
  go_wp2_with fail
  refine hC.out.mono ?_
  rintro e w1 ⟨rfl, hq⟩
  have HQ := Lib.hid hq
  clear hq
  go_wp2
  go_ret
  refine ⟨rfl, ?_⟩
  rcases HQ.out with ⟨h1, rfl⟩ | ⟨_, h2⟩
  · refine ⟨v, l, ?_, ?_, Only.refl _ _, .inl rfl⟩
    · unfold putZ; rw [h1, if_neg (by decide)]; exact H.out
    · unfold putN; rw [h1, if_neg (by decide)]
  · exact h2

theorem Code_any (base : Nat) {w : World} {g : Nat} {v : Value} {l : List UInt8} {z : Nat} (x n : Int) (h : wt base w g v l z) (hb : base ≤ w.heap.size) (hz : z ≤ 562949953421312) :
    Calls Tryd.prog 80 #[.pointer (some ⟨g, 0, none⟩), .int .i64 x, .int .i64 n] w fun e w' => e = .returned (.int .i64 (putE x n)) ∧ ∃ v' l', wt base w' g v' l' (putZ z x n) ∧ num l' = codeN (num l) z x n ∧ Only (own g v) w w' ∧ later w v v' := by
  have hC := Lib.hid (number_high (Q := fun w' => ∃ v' l', wt base w' g v' l' (putZ z x n) ∧ num l' = codeN (num l) z x n ∧ Only (own g v) w w' ∧ later w v v') x n h.b (fun y m hx hn hm hy => by
    subst hx; subst hn
    by_cases he : putE y m = 0
    · unfold putZ codeN
      rw [if_pos he, if_pos he]
      exact highest_any base y m h hb hy hm hz
    · exfalso
      rcases putE_cases y m with ⟨_, hc⟩ | ⟨_, _, m', hm', _, hne⟩ | ⟨h0, _⟩
      · simp [cnt] at hc; omega
      · obtain rfl : m = m' := by omega
        have e : (y : Int) / 2 ^ m = ((y / 2 ^ m : Nat) : Int) := by simp
        rw [e, Nat.div_eq_of_lt hy] at hne
        exact hne rfl
      · exact he h0))
  have H := Lib.hid h
  clear h
  go_enter Tryd.func80, Tryd.ntmps80
  go_wp2_with fail
  refine hC.out.mono ?_
  rintro e w1 ⟨rfl, hq⟩
  have HQ := Lib.hid hq
  clear hq
  go_wp2
  go_ret
  refine ⟨rfl, ?_⟩
  rcases HQ.out with ⟨h1, rfl⟩ | ⟨_, h2⟩
  · refine ⟨v, l, ?_, ?_, Only.refl _ _, .inl rfl⟩
    · unfold putZ; rw [h1, if_neg (by decide)]; exact H.out
    · unfold codeN; rw [h1, if_neg (by decide)]
  · exact h2

/-- A new writer. -/
theorem Open_any (w : World) :
    Calls Tryd.prog 18 #[] w fun e w' => ∃ g, e = .returned (.pointer (some ⟨g, 0, none⟩)) ∧ wt w.heap.size w' g (.slice none 0 0) [] 0 ∧ g = w.heap.size ∧ Below w.heap.size w w' := by
  go_enter Tryd.func18, Tryd.ntmps18
  go_wp2
  go_ret
  exact ⟨w.heap.size, rfl, ⟨Blk.fresh w 68 _, World.ownsRow_nil _ _ _ _, by simp [num], rfl⟩, rfl, (Below.refl _ _).alloc (Nat.le_refl _) _⟩

theorem Len_any {w : World} {g : Nat} {v : Value} {z : Nat} (h : wb w g v z) :
    Calls Tryd.prog 24 #[.pointer (some ⟨g, 0, none⟩)] w fun e w' => e = .returned (.int .i64 z) ∧ w = w' := by
  have hN := Lib.hid (wNone_any h)
  have c2 := h.c2
  go_enter Tryd.func24, Tryd.ntmps24
  go_wp2_with (go_at_call 49; refine hN.out.mono ?_; rintro e w' ⟨rfl, rfl⟩)
  go_ret
  exact ⟨rfl, rfl⟩

theorem Text_any {base : Nat} {w : World} {g : Nat} {v : Value} {l : List UInt8} {z : Nat} (h : wt base w g v l z) :
    Calls Tryd.prog 25 #[.pointer (some ⟨g, 0, none⟩)] w fun e w' => e = .returned (.string ⟨l.toArray⟩) ∧ w = w' := by
  have hN := Lib.hid (wNone_any h.b)
  have c1 := h.b.c1
  have hcv := own_string (P := Tryd.prog) (dst := 9) Tryd.underlying49 Tryd.underlying5 Tryd.underlying9 h.o
  clear h
  go_enter Tryd.func25, Tryd.ntmps25
  go_wp2_with (go_at_call 49; refine hN.out.mono ?_; rintro e w' ⟨rfl, rfl⟩)
  go_ret
  exact ⟨rfl, rfl⟩

theorem row_form {w : World} {base : Nat} {v : Value} {n : Nat} {xs : List Value} (h : w.ownsRow base 5 1 v n xs) : ∃ A cap, v = .slice A n cap := by
  rcases h.2 with ⟨rfl, rfl⟩ | ⟨b, cap, _, rfl, _⟩
  · exact ⟨none, 0, rfl⟩
  · exact ⟨_, cap, rfl⟩

/-- Align, also of a writer whose bytes have grown ahead of its size. -/
theorem align_all (base : Nat) {w : World} {g : Nat} {v : Value} {l : List UInt8} {z : Nat} (h : wb w g v z) (ho : w.ownsRow base 5 1 v l.length (Bs l)) (hl : l.length ≤ 140737488355328) :
    Calls Tryd.prog 62 #[.pointer (some ⟨g, 0, none⟩)] w fun e w' => e = .returned (.tuple #[]) ∧ wt base w' g v l (8 * l.length) ∧ Only (own g v) w w' := by
  have hN := Lib.hid (wNone_any h)
  obtain ⟨A, cap, rfl⟩ := row_form ho
  have c1 := h.c1
  have c2 := h.c2
  have f2 := h.f2
  have H := Lib.hid h
  have HO := Lib.hid ho
  have hap := Lib.hid (own_apart ho h (by decide))
  clear h ho
  generalize hn : l.length = n at *
  have HN := Lib.hid hn
  clear hn
  go_enter Tryd.func62, Tryd.ntmps62
  go_wp2_with (go_at_call 49; refine hN.out.mono ?_; rintro e w' ⟨rfl, rfl⟩)
  go_end0
  refine ⟨rfl, ⟨H.out.size (by omega), ?_, ?_, ?_⟩, (Only.refl _ _).store (.inl (.inl rfl)) _⟩
  · rw [HN.out]; exact own_only HO.out ((Only.refl (fun k => k = g) w).store (p := ⟨g, 2, none⟩) (.inl rfl) _) (fun i hi e => hap.out i hi e)
  · rw [← HN.out]; exact num_lt l
  · rw [HN.out]; omega
theorem wAlign_any (base : Nat) {w : World} {g : Nat} {v : Value} {l : List UInt8} {z : Nat} (h : wt base w g v l z) (hz : z ≤ 562949953421312) :
    Calls Tryd.prog 62 #[.pointer (some ⟨g, 0, none⟩)] w fun e w' => e = .returned (.tuple #[]) ∧ wt base w' g v l (8 * l.length) ∧ Only (own g v) w w' :=
  align_all base h.b h.o (by rw [h.len]; omega)

theorem strCells_Bs (s : ByteArray) : Lib.strCells s = Bs s.data.toList := rfl

end Go.Proofs.YtgbdecnaamlekaaDoor.Bx
