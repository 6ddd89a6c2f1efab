/-
  The reference's writer (collimatorref04): its methods: their results, the bits behind them; of what was there only the writer and its bits have changed.
  Conditions: as each theorem says.
-/
import Derived.Test.YtnkninjdpgpkmaaGreatDoorBbb
import Derived.Deep.LoopGhost
namespace Go.Proofs.YtnkninjdpgpkmaaGreatDoor.Be
open Go.RowKit Go.Proofs.YtnkninjdpgpkmaaGreatDoor.Vm Go.Proofs.YtnkninjdpgpkmaaGreatDoor.Vo Go.Proofs.YtnkninjdpgpkmaaGreatDoor.Bm Go.Proofs.YtnkninjdpgpkmaaGreatDoor.Bo Go.Proofs.YtnkninjdpgpkmaaGreatDoor.Bt Go.Proofs.YtnkninjdpgpkmaaGreatDoor.Bw Go.Proofs.YtnkninjdpgpkmaaGreatDoor.Br Go.Proofs.YtnkninjdpgpkmaaGreatDoor.Bv Go.Proofs.YtnkninjdpgpkmaaGreatDoor.Bx Go.PlainAid

/-- The number of bits, the first one's value 1. -/
def bitN : List UInt8 → Nat
  | [] => 0
  | b :: r => b.toNat + 2 * bitN r
theorem bitN_append : ∀ (a b : List UInt8), bitN (a ++ b) = bitN a + 2 ^ a.length * bitN b
  | [], b => by simp [bitN]
  | x :: a, b => by
    simp only [List.cons_append, bitN, List.length_cons]
    rw [bitN_append a b, Nat.pow_succ, Nat.mul_add, Nat.mul_comm (2 ^ a.length) 2, Nat.mul_assoc]
    omega
theorem bitN_snoc (a : List UInt8) (x : UInt8) : bitN (a ++ [x]) = bitN a + 2 ^ a.length * x.toNat := by rw [bitN_append]; simp [bitN]
theorem bitN_lt : ∀ (a : List UInt8), (∀ x ∈ a, x.toNat ≤ 1) → bitN a < 2 ^ a.length
  | [], _ => by simp [bitN]
  | x :: a, h => by
    have h1 := h x (by simp)
    have h2 := bitN_lt a (fun y hy => h y (by simp [hy]))
    simp only [bitN, List.length_cons]
    rw [Nat.pow_succ]
    omega

/-- A reference's writer at block g whose slice of bits is v; the bits are bs. -/
def rb (w : World) (g : Nat) (v : Value) : Prop := Blk w g 112 #[v]
structure rw' (base : Nat) (w : World) (g : Nat) (v : Value) (bs : List UInt8) : Prop where
  b : rb w g v
  o : w.ownsRow base 5 1 v bs.length (Bs bs)
  ok : ∀ x ∈ bs, x.toNat ≤ 1
theorem rb.c0 {w : World} {g : Nat} {v : Value} (h : rb w g v) : w.cell? ⟨g, 0, none⟩ = some v := Blk.cell h 0
theorem rb.f0 {w : World} {g : Nat} {v : Value} (h : rb w g v) : w.frozen? ⟨g, 0, none⟩ = false := Blk.frozen h 0
theorem rb.put {w : World} {g : Nat} {v : Value} (h : rb w g v) (u : Value) : rb (w.setCell ⟨g, 0, none⟩ u) g u := Blk.store h 0 _

/-- One bit more: what an append and the store of the slice leave. -/
theorem bit_more {base : Nat} {w wr w1 : World} {g n cap : Nat} {v0 v : Value} {A : Option Addr} {bs : List UInt8} {x : UInt8} {o : Obj} (h : rw' base wr g v bs) (hx : x.toNat ≤ 1) (o1 : Only (own g v0) w wr) (la : later w v0 v)
    (hown : w1.ownsRow base 5 1 (.slice A n cap) (bs.length + 1) (Bs bs ++ [B x])) (hg : (wr.alloc o).grownBy w1 v.ownBlock) (hloc : Value.ownBlock (.slice A n cap) = v.ownBlock ∨ Value.ownBlock (.slice A n cap) = some (wr.heap.size + 1)) :
    rb w1 g v ∧ rw' base (w1.setCell ⟨g, 0, none⟩ (.slice A n cap)) g (.slice A n cap) (bs ++ [x]) ∧ Only (own g v0) w (w1.setCell ⟨g, 0, none⟩ (.slice A n cap)) ∧ later w v0 (.slice A n cap) := by
  have hvg : ∀ i, v.ownBlock = some i → i ≠ g := own_apart h.o h.b (by decide)
  have B1 : rb w1 g v := Blk.only h.b (((Only.refl (fun k => v.ownBlock = some k) wr).alloc _).grown hg (fun i hi _ => hi)) (fun e => hvg g e rfl)
  have hbg := own_apart hown B1 (by decide)
  refine ⟨B1, ⟨B1.put _, ?_, ?_⟩, ?_, ?_⟩
  · have h2 := own_only hown ((Only.refl (fun k => k = g) w1).store (p := ⟨g, 0, none⟩) (.inl rfl) (.slice A n cap)) (fun i hi e => hbg i hi e)
    rw [Bs_snoc] at h2
    simpa using h2
  · intro y hy
    rcases List.mem_append.1 hy with hy | hy
    · exact h.ok y hy
    · simp at hy; subst hy; exact hx
  · refine Only.store ((o1.alloc _).grown hg (fun i hi hlt => ?_)) (.inl (.inl rfl)) _
    rcases own_of (g := g) la i hi with h | h
    · exact h
    · omega
  · rcases hloc with h | h
    · rcases la with l | ⟨k, hk, l⟩
      · exact .inl (h.trans l)
      · exact .inr ⟨k, hk, h.trans l⟩
    · refine .inr ⟨_, ?_, h⟩
      have := o1.size
      omega

theorem bit_of (y i : Nat) : ∃ x : UInt8, x.toNat = y / 2 ^ i % 2 ∧ x.toNat ≤ 1 := by
  refine ⟨UInt8.ofNat (y / 2 ^ i % 2), ?_, ?_⟩ <;> simp <;> omega

theorem bit_next {b1 bs : List UInt8} {x : UInt8} {y k : Nat} (hl : b1.length = bs.length + k) (hn : bitN b1 = bitN bs + y % 2 ^ k * 2 ^ bs.length) (hx : x.toNat = y / 2 ^ k % 2) :
    bitN (b1 ++ [x]) = bitN bs + y % 2 ^ (k + 1) * 2 ^ bs.length := by
  have h := peekN_add y 0 k 1
  unfold peekN at h
  simp only [Nat.pow_zero, Nat.div_one, Nat.zero_add, Nat.pow_one] at h
  rw [bitN_snoc, hn, hl, hx, h, Nat.pow_add, Nat.add_mul, Nat.add_assoc]
  congr 2
  rw [Nat.mul_comm (2 ^ bs.length), Nat.mul_assoc, Nat.mul_assoc, Nat.mul_comm (2 ^ bs.length)]

set_option maxHeartbeats 4000000 in
set_option maxRecDepth 100000 in
theorem rPut_in (base : Nat) {w : World} {g : Nat} {v : Value} {bs : List UInt8} (y m : Nat) (h : rw' base w g v bs) (hb : base ≤ w.heap.size) (hz : bs.length ≤ 70368744177664) (hm : m ≤ 32) (hy : y < 2 ^ m) :
    Calls Tryz.prog 85 #[.pointer (some ⟨g, 0, none⟩), .int .i64 y, .int .i64 m] w fun e w' => e = .returned (.int .i64 0) ∧ ∃ v' bs', rw' base w' g v' bs' ∧ bs'.length = bs.length + m ∧ bitN bs' = bitN bs + y * 2 ^ bs.length ∧ Only (own g v) w w' ∧ later w v v' := by
  obtain ⟨i0, hi, hz0, hz1, hz2⟩ := info_parts info8
  have hp : 2 ^ m ≤ 2 ^ 32 := Nat.pow_le_pow_right (by omega) hm
  have hy32 : y < 4294967296 := Nat.lt_of_lt_of_le hy hp
  have hge : (y : Int) < wrap64 (2 ^ m) := by
    have e : (2 : Int) ^ m = ((2 ^ m : Nat) : Int) := by push_cast; rfl
    have h0 : 0 < 2 ^ m := Nat.two_pow_pos m
    rw [e]
    generalize 2 ^ m = M at *
    rw [wrap64_in (by omega) (by omega)]
    omega
  have HY := Lib.hid hy
  have H := Lib.hid h
  have d0 : decide ((m : Int) < 0) = false := by simp
  have d1 : decide ((32 : Int) < (m : Int)) = false := by simp; omega
  have d2 : decide ((y : Int) < 0) = false := by simp
  have d3 : decide (wrap64 (2 ^ m) ≤ (y : Int)) = false := by simp; exact hge
  clear h hy hp hge
  go_enter Tryz.func85, Tryz.ntmps85
  go_wp2
  go_loopw [7] (fun i wr => ∃ (k : Nat) (v1 : Value) (b1 : List UInt8), i = .int .i64 k ∧ k ≤ m ∧ Hid (rw' base wr g v1 b1) ∧ b1.length = bs.length + k ∧ Hid (bitN b1 = bitN bs + y % 2 ^ k * 2 ^ bs.length) ∧ Only (own g v) w wr ∧ later w v v1)
    (fun i _ => m - (intOf i).toNat)
  case atStart => exact ⟨0, v, bs, rfl, by omega, H, by simp, Lib.hid (by simp [Nat.mod_one]), Only.refl _ _, .inl rfl⟩
  case round =>
    obtain ⟨k, v1, b1, rfl, hk, R, hl, HN, o1, la⟩ := hrel
    clear d0 d1 d2 d3
    by_cases hlt : k < m
    · obtain ⟨x, hx, hx1⟩ := bit_of y k
      have c0 := R.out.b.c0
      have hbw : base ≤ wr.heap.size := Nat.le_trans hb o1.size
      have HX := Lib.hid hx
      have HL := Lib.hid hl
      have hb1 : b1.length ≤ 70368744177696 := by omega
      obtain ⟨q, hq, HQ⟩ : ∃ q : Nat, (y : Int) / 2 ^ k = (q : Int) ∧ Hid (q = y / 2 ^ k) := ⟨y / 2 ^ k, by simp, Lib.hid rfl⟩
      have hq32 : q < 4294967296 := by rw [HQ.out]; exact Nat.lt_of_le_of_lt (Nat.div_le_self _ _) hy32
      have HE2 : Hid ((q : Int) % 2 = (x.toNat : Int)) := Lib.hid (by rw [hx, ← HQ.out]; omega)
      clear hx hl
      go_wp2_with (at_builtin; refine wpList_append_own_at _ rfl _ _ 62 rfl base 5 i0 (.int .u8 0) 1 1 Tryz.underlying62 hi hz0 hz1 hz2 rfl (by decide) v1 b1.length (Bs b1) rfl (R.out.o.alloc _) ⟨wr.heap.size, 0, none⟩ 1 1 [.int .u8 ((q : Int) % 2)] rfl rfl (cell_one_new _ _ _) ?a2 ?a3 ?a4 ?a5 ?_)
      case a2 => intro q hq; simp at hq; subst hq; rfl
      case a3 => unfold maxLen; omega
      case a4 => omega
      case a5 => simp; omega
      intro v2 w2 hown2 hgrow _ hloc
      rw [show Value.int .u8 ((q : Int) % 2) = B x by rw [HE2.out]; rfl] at hown2
      obtain ⟨A2, cap2, hv2⟩ := row_form hown2
      subst hv2
      obtain ⟨hb2, R2, o2, la2⟩ := bit_more R.out hx1 o1 la hown2 hgrow hloc
      have k0 := hb2.c0
      have f0 := hb2.f0
      have HR := Lib.hid R2
      have HO := Lib.hid o2
      have hlen : (b1 ++ [x]).length = bs.length + (k + 1) := by rw [List.length_append, HL.out]; simp; omega
      have HN' : Hid (bitN (b1 ++ [x]) = bitN bs + y % 2 ^ (k + 1) * 2 ^ bs.length) := Lib.hid (bit_next HL.out HN.out HX.out)
      clear hb2 R2 o2 hown2 hgrow hloc c0 hq
      go_wp2
      go_roundw
      case rel => exact ⟨k + 1, _, b1 ++ [x], by go_num, by omega, HR, hlen, HN', HO.out, la2⟩
      case measure => simp [intOf]; omega
    · obtain rfl : k = m := by omega
      have hn := HN.out
      rw [Nat.mod_eq_of_lt HY.out] at hn
      have HN2 := Lib.hid hn
      have HL := Lib.hid hl
      clear hn hl
      go_wp2
      go_ret
      exact ⟨rfl, v1, b1, R.out, HL.out, HN2.out, o1, la⟩

/-- What is refused. -/
theorem out_cases (x : Int) (m : Nat) (hm : m ≤ 32) (h : ¬ x / 2 ^ m = 0) : x < 0 ∨ (0 ≤ x ∧ wrap64 (2 ^ m) ≤ x) := by
  rcases Int.lt_or_le x 0 with h0 | h0
  · exact .inl h0
  · obtain ⟨y, rfl⟩ := Int.eq_ofNat_of_zero_le h0
    refine .inr ⟨h0, ?_⟩
    have e : (2 : Int) ^ m = ((2 ^ m : Nat) : Int) := by push_cast; rfl
    have e1 : (y : Int) / 2 ^ m = ((y / 2 ^ m : Nat) : Int) := by simp
    have h1 : 2 ^ m ≤ 2 ^ 32 := Nat.pow_le_pow_right (by omega) hm
    have h2 : ¬ y < 2 ^ m := fun hl => h (by rw [e1, Nat.div_eq_of_lt hl]; rfl)
    have h3 : 0 < 2 ^ m := Nat.two_pow_pos m
    clear e1 h
    rw [e]
    generalize 2 ^ m = M at *
    rw [wrap64_in (by omega) (by omega)]
    omega

set_option maxRecDepth 100000 in
theorem rPut_any (base : Nat) {w : World} {g : Nat} {v : Value} {bs : List UInt8} (x n : Int) (h : rw' base w g v bs) (hb : base ≤ w.heap.size) (hz : bs.length ≤ 70368744177664) :
    Calls Tryz.prog 85 #[.pointer (some ⟨g, 0, none⟩), .int .i64 x, .int .i64 n] w fun e w' => e = .returned (.int .i64 (putE x n)) ∧ ∃ v' bs', rw' base w' g v' bs' ∧ bs'.length = putZ bs.length x n ∧ bitN bs' = putN (bitN bs) bs.length x n ∧ Only (own g v) w w' ∧ later w v v' := by
  rcases putE_cases x n with ⟨he, hc⟩ | ⟨he, hc, m, rfl, hm, hx⟩ | ⟨he, hc, y, m, rfl, rfl, hm, hy⟩
  · have hn : n < 0 ∨ 32 < n := by simp [cnt] at hc; omega
    have HE := Lib.hid he
    have HZ : Hid (putZ bs.length x n = bs.length ∧ putN (bitN bs) bs.length x n = bitN bs) := Lib.hid (by unfold putZ putN; rw [he, if_neg (by decide), if_neg (by decide)]; exact ⟨rfl, rfl⟩)
    have H := Lib.hid h
    clear he hc h
    rcases hn with hn | hn
    all_goals
      go_enter Tryz.func85, Tryz.ntmps85
      go_wp2
      go_ret
      exact ⟨ret_int HE.out.symm, v, bs, H.out, HZ.out.1.symm, HZ.out.2.symm, Only.refl _ _, .inl rfl⟩
  · have HE := Lib.hid he
    have HZ : Hid (putZ bs.length x m = bs.length ∧ putN (bitN bs) bs.length x m = bitN bs) := Lib.hid (by unfold putZ putN; rw [he, if_neg (by decide), if_neg (by decide)]; exact ⟨rfl, rfl⟩)
    have H := Lib.hid h
    have d1 : decide ((32 : Int) < (m : Int)) = false := by simp; omega
    rcases out_cases x m hm hx with h0 | ⟨h0, h1⟩
    · clear he hc h hx
      go_enter Tryz.func85, Tryz.ntmps85
      go_wp2
      go_ret
      exact ⟨ret_int HE.out.symm, v, bs, H.out, HZ.out.1.symm, HZ.out.2.symm, Only.refl _ _, .inl rfl⟩
    · have d3 : decide (wrap64 (2 ^ m) ≤ x) = true := by simpa using h1
      clear he hc h hx h1
      go_enter Tryz.func85, Tryz.ntmps85
      go_wp2
      go_ret
      exact ⟨ret_int HE.out.symm, v, bs, H.out, HZ.out.1.symm, HZ.out.2.symm, Only.refl _ _, .inl rfl⟩
  · have e1 : putZ bs.length y m = bs.length + m := by unfold putZ; rw [if_pos he]; rfl
    have e2 : putN (bitN bs) bs.length y m = bitN bs + y * 2 ^ bs.length := by unfold putN; rw [if_pos he]; rfl
    rw [he, e1, e2]
    exact rPut_in base y m h hb hz hm hy

set_option maxRecDepth 100000 in
theorem rCode_any (base : Nat) {w : World} {g : Nat} {v : Value} {bs : List UInt8} (x n : Int) (h : rw' base w g v bs) (hb : base ≤ w.heap.size) (hz : bs.length ≤ 70368744177664) :
    Calls Tryz.prog 88 #[.pointer (some ⟨g, 0, none⟩), .int .i64 x, .int .i64 n] w fun e w' => e = .returned (.int .i64 (putE x n)) ∧ ∃ v' bs', rw' base w' g v' bs' ∧ bs'.length = putZ bs.length x n ∧ bitN bs' = codeN (bitN bs) bs.length x n ∧ Only (own g v) w w' ∧ later w v v' := by
  rcases putE_cases x n with ⟨he, hc⟩ | ⟨he, hc, m, rfl, hm, hx⟩ | ⟨he, hc, y, m, rfl, rfl, hm, hy⟩
  · have hn : n < 0 ∨ 32 < n := by simp [cnt] at hc; omega
    have HE := Lib.hid he
    have HZ : Hid (putZ bs.length x n = bs.length ∧ codeN (bitN bs) bs.length x n = bitN bs) := Lib.hid (by unfold putZ codeN; rw [he, if_neg (by decide), if_neg (by decide)]; exact ⟨rfl, rfl⟩)
    have H := Lib.hid h
    clear he hc h
    rcases hn with hn | hn
    all_goals
      go_enter Tryz.func88, Tryz.ntmps88
      go_wp2
      go_ret
      exact ⟨ret_int HE.out.symm, v, bs, H.out, HZ.out.1.symm, HZ.out.2.symm, Only.refl _ _, .inl rfl⟩
  · have HE := Lib.hid he
    have HZ : Hid (putZ bs.length x m = bs.length ∧ codeN (bitN bs) bs.length x m = bitN bs) := Lib.hid (by unfold putZ codeN; rw [he, if_neg (by decide), if_neg (by decide)]; exact ⟨rfl, rfl⟩)
    have H := Lib.hid h
    have d1 : decide ((32 : Int) < (m : Int)) = false := by simp; omega
    rcases out_cases x m hm hx with h0 | ⟨h0, h1⟩
    · clear he hc h hx
      go_enter Tryz.func88, Tryz.ntmps88
      go_wp2
      go_ret
      exact ⟨ret_int HE.out.symm, v, bs, H.out, HZ.out.1.symm, HZ.out.2.symm, Only.refl _ _, .inl rfl⟩
    · have d3 : decide (wrap64 (2 ^ m) ≤ x) = true := by simpa using h1
      clear he hc h hx h1
      go_enter Tryz.func88, Tryz.ntmps88
      go_wp2
      go_ret
      exact ⟨ret_int HE.out.symm, v, bs, H.out, HZ.out.1.symm, HZ.out.2.symm, Only.refl _ _, .inl rfl⟩
  · have e1 : putZ bs.length y m = bs.length + m := by unfold putZ; rw [if_pos he]; rfl
    have e2 : codeN (bitN bs) bs.length y m = bitN bs + turnN y m * 2 ^ bs.length := by unfold codeN; rw [if_pos he]; rfl
    rw [he, e1, e2]
    have hC := Lib.hid (rPut_in base (turnN y m) m h hb hz hm (turnN_lt y m))
    have hp : 2 ^ m ≤ 2 ^ 32 := Nat.pow_le_pow_right (by omega) hm
    have hge : (y : Int) < wrap64 (2 ^ m) := by
      have e : (2 : Int) ^ m = ((2 ^ m : Nat) : Int) := by push_cast; rfl
      have h0 : 0 < 2 ^ m := Nat.two_pow_pos m
      rw [e]
      generalize 2 ^ m = M at *
      rw [wrap64_in (by omega) (by omega)]
      omega
    have HT : Hid (turnR y m = (turnN y m : Nat)) := Lib.hid (by
      unfold turnR
      rw [if_pos hc, show ((y : Int) % 18446744073709551616).toNat = y by omega]
      rfl)
    have d1 : decide ((32 : Int) < (m : Int)) = false := by simp; omega
    have d3 : decide (wrap64 (2 ^ m) ≤ (y : Int)) = false := by simp; exact hge
    clear he hc h hy hp hge e1 e2
    go_enter Tryz.func88, Tryz.ntmps88
    go_wp2_with (first | (go_at_call 122; refine (rTurn_any _ _ _).mono ?_; rintro e w' ⟨rfl, rfl⟩; rw [HT.out]) | (go_at_call 85; refine hC.out.mono ?_; rintro e w1 ⟨rfl, hp⟩))
    go_ret
    exact ⟨rfl, hp⟩

/-- Bits 0 behind bits. -/
theorem zeros_next (bs : List UInt8) (k : Nat) : bs ++ List.replicate k 0 ++ [(0 : UInt8)] = bs ++ List.replicate (k + 1) 0 := by
  rw [List.append_assoc, ← List.replicate_succ']
theorem zeros_bitN (bs : List UInt8) (k : Nat) : bitN (bs ++ List.replicate k 0) = bitN bs := by
  have h : ∀ k, bitN (List.replicate k 0) = 0 := by
    intro k
    induction k with
    | zero => rfl
    | succ k ih => simp [List.replicate_succ, bitN, ih]
  rw [bitN_append, h]; simp

set_option maxHeartbeats 4000000 in
set_option maxRecDepth 100000 in
theorem rwAlign_any (base : Nat) {w : World} {g : Nat} {v : Value} {bs : List UInt8} (h : rw' base w g v bs) (hb : base ≤ w.heap.size) (hz : bs.length ≤ 70368744177664) :
    Calls Tryz.prog 86 #[.pointer (some ⟨g, 0, none⟩)] w fun e w' => e = .returned (.tuple #[]) ∧ ∃ v' bs', rw' base w' g v' bs' ∧ bs'.length = (bs.length + 7) / 8 * 8 ∧ bitN bs' = bitN bs ∧ Only (own g v) w w' ∧ later w v v' := by
  obtain ⟨i0, hi, hz0, hz1, hz2⟩ := info_parts info8
  have H := Lib.hid h
  clear h
  go_enter Tryz.func86, Tryz.ntmps86
  go_wp2
  go_loopg [] ((bs.length + 7) / 8 * 8 - bs.length) (fun gk wr => ∃ (k : Nat) (v1 : Value), bs.length + k ≤ (bs.length + 7) / 8 * 8 ∧ Hid (gk = (bs.length + 7) / 8 * 8 - bs.length - k) ∧ Hid (rw' base wr g v1 (bs ++ List.replicate k 0)) ∧ Only (own g v) w wr ∧ later w v v1)
  case atStart => exact ⟨0, v, by omega, Lib.hid (by omega), Lib.hid (by simpa using H.out), Only.refl _ _, .inl rfl⟩
  case round =>
    obtain ⟨k, v1, hk, HK, R, o1, la⟩ := hrel
    have hln : (bs ++ List.replicate k (0 : UInt8)).length = bs.length + k := by simp
    have HLN := Lib.hid hln
    obtain ⟨A1, cap1, hv1⟩ := row_form R.out.o
    rw [hln] at hv1
    subst hv1
    have c0 := R.out.b.c0
    have hbw : base ≤ wr.heap.size := Nat.le_trans hb o1.size
    have HO : wr.ownsRow base 5 1 (.slice A1 (bs.length + k) cap1) (bs.length + k) (Bs (bs ++ List.replicate k 0)) := by have h := R.out.o; rw [hln] at h; exact h
    clear hln
    by_cases h8 : (bs.length + k) % 8 = 0
    · have hd : ((((bs.length + k : Nat) : Int) % 8) != 0) = false := by simp; omega
      have hB : Hid (bs.length + k = (bs.length + 7) / 8 * 8) := Lib.hid (by omega)
      clear h8
      generalize hX : bs.length + k = X at *
      have HX := Lib.hid hX
      clear hX
      go_wp2
      go_end0
      exact ⟨rfl, _, _, R.out, by rw [HLN.out]; exact hB.out, zeros_bitN _ _, o1, la⟩
    · have hd : ((((bs.length + k : Nat) : Int) % 8) != 0) = true := by simp; omega
      have hB : Hid (bs.length + (k + 1) ≤ (bs.length + 7) / 8 * 8) := Lib.hid (by omega)
      have hXb : bs.length + k ≤ 70368744177674 := by omega
      clear h8
      generalize hX : bs.length + k = X at *
      have HX := Lib.hid hX
      clear hX
      go_wp2_with (at_builtin; refine wpList_append_own_at _ rfl _ _ 62 rfl base 5 i0 (.int .u8 0) 1 1 Tryz.underlying62 hi hz0 hz1 hz2 rfl (by decide) _ X (Bs (bs ++ List.replicate k 0)) rfl (HO.alloc _) ⟨wr.heap.size, 0, none⟩ 1 1 [.int .u8 0] rfl rfl (cell_one_new _ _ _) ?a2 ?a3 ?a4 ?a5 ?_)
      case a2 => intro q hq; simp at hq; subst hq; rfl
      case a3 => unfold maxLen; omega
      case a4 => omega
      case a5 => simp; omega
      intro v2 w2 hown2 hgrow _ hloc
      obtain ⟨A2, cap2, hv2⟩ := row_form hown2
      subst hv2
      have hown3 : w2.ownsRow base 5 1 (.slice A2 (X + 1) cap2) ((bs ++ List.replicate k (0 : UInt8)).length + 1) (Bs (bs ++ List.replicate k 0) ++ [B 0]) := by rw [HLN.out]; exact hown2
      obtain ⟨hb2, R2, o2, la2⟩ := bit_more (x := 0) R.out (by decide) o1 la hown3 hgrow hloc
      have k0 := hb2.c0
      have f0 := hb2.f0
      rw [zeros_next] at R2
      have HR := Lib.hid R2
      have HOO := Lib.hid o2
      have HLA := Lib.hid la2
      clear hb2 R2 o2 hown2 hown3 hgrow hloc c0 la2
      go_wp2
      go_roundg (gk - 1)
      case measure => have := hB.out; have := HK.out; omega
      case rel => exact ⟨k + 1, _, hB.out, Lib.hid (by have := HK.out; omega), HR, HOO.out, HLA.out⟩

end Go.Proofs.YtnkninjdpgpkmaaGreatDoor.Be
