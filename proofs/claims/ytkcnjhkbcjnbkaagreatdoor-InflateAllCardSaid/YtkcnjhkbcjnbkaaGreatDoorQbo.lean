/-
  The reference's Read and Write of prefix codes.
  The reference's Write of prefix codes.
  Write, called with a writer that Open made: what it answers, and the bits behind it; of what was there only the writer and its bytes have changed.
  Conditions: as each theorem says.
-/
import Derived.Test.YtkcnjhkbcjnbkaaGreatDoorQai
import Derived.Test.YtkcnjhkbcjnbkaaGreatDoorQbm
import Derived.Test.YtkcnjhkbcjnbkaaGreatDoorQbn
import Derived.Test.YtkcnjhkbcjnbkaaGreatDoorQaw
import Derived.Test.YtkcnjhkbcjnbkaaGreatDoorQaf
import Derived.Deep.QuietTactic
import Derived.BigQuiet
import Derived.StillTailTactics
import Derived.Test.YtkcnjhkbcjnbkaaGreatDoorQay
namespace Go.Proofs.YtkcnjhkbcjnbkaaGreatDoor.Pr
open Go.RowKit Go.Proofs.YtkcnjhkbcjnbkaaGreatDoor.Vm Go.Proofs.YtkcnjhkbcjnbkaaGreatDoor.Bm Go.Proofs.YtkcnjhkbcjnbkaaGreatDoor.Bw Go.Proofs.YtkcnjhkbcjnbkaaGreatDoor.Bp Go.Proofs.YtkcnjhkbcjnbkaaGreatDoor.Bq Go.Proofs.YtkcnjhkbcjnbkaaGreatDoor.Bs Go.Proofs.YtkcnjhkbcjnbkaaGreatDoor.Na Go.Proofs.YtkcnjhkbcjnbkaaGreatDoor.Nm Go.Proofs.YtkcnjhkbcjnbkaaGreatDoor.Nw Go.Proofs.YtkcnjhkbcjnbkaaGreatDoor.Ni Go.Proofs.YtkcnjhkbcjnbkaaGreatDoor.Nc Go.Proofs.YtkcnjhkbcjnbkaaGreatDoor.Nd Go.Proofs.YtkcnjhkbcjnbkaaGreatDoor.Ne Go.Proofs.YtkcnjhkbcjnbkaaGreatDoor.Nf Go.Proofs.YtkcnjhkbcjnbkaaGreatDoor.Ng Go.Proofs.YtkcnjhkbcjnbkaaGreatDoor.Pm

theorem drews_below {B : Nat} {a b : World} (h : Below B a b) (n : Nat) : Below B a (b.drewN n) := ⟨h.os, h.tape, h.output, h.size, h.block⟩

set_option maxHeartbeats 1000000 in
set_option maxRecDepth 100000 in
theorem rRead_any {A : Option Addr} {n cap : Nat} {f : Nat → Int} {w : World} {g : Nat} {s : ByteArray} {a : Nat} (he : err n f = 0) (HC : Hid (row w A n f)) (HQ : Hid (rr w g s a)) (hs : s.size ≤ 281474976710656) (ha : a ≤ 8 * s.size) :
    Calls Tryz.prog 37 #[.pointer (some ⟨g, 0, none⟩), .slice A n cap] w fun e w' => e = .returned (.tuple #[.int .i64 (gotS (L n f) (num s.data.toList) a (8 * s.size - a)), .int .i64 (gotE (L n f) (num s.data.toList) a (8 * s.size - a))])
      ∧ rr w' g s (gotA (L n f) (num s.data.toList) a (8 * s.size - a)) ∧ Only (At g) w w' := by
  obtain ⟨h1, h2, h3⟩ := err_zero he
  have HO := Lib.hid (rCodes_ok (cap := cap) he HC)
  have HR := Lib.hid (L_row h2 HC.out)
  have H15 := Lib.hid (L_le h2)
  obtain ⟨l, hl⟩ : ∃ l, l = L n f := ⟨_, rfl⟩
  have hln : Hid (l.length = n) := Lib.hid (by rw [hl, L_length])
  rw [← hl] at HO HR H15 h3 ⊢
  obtain ⟨N, hN⟩ : ∃ N, N = num s.data.toList := ⟨_, rfl⟩
  rw [← hN]
  have HN := Lib.hid hN
  obtain ⟨left, hleft⟩ : ∃ left, left = 8 * s.size - a := ⟨_, rfl⟩
  rw [← hleft]
  have HLe := Lib.hid hleft
  have hlb : left ≤ 9000000000000000 := by omega
  have H3 := Lib.hid h3
  clear hl h2 h3 he HC hN hleft
  go_enter Tryz.func37, Tryz.ntmps37
  go_wp2_with fail
  refine HO.out.mono ?_
  rintro e w1 ⟨gc, rfl, hg, _, hb1⟩
  have B1 := Lib.hid hb1
  have G1 := Lib.hid hg
  have Q1 := Lib.hid (HQ.out.below hb1)
  clear hb1 hg HO
  go_wp2
  go_loopw [9, 8] (fun x y wr => ∃ m : Nat, x = .int .i64 ((m + 1 : Nat) : Int) ∧ y = .int .i64 (hi N a m) ∧ m ≤ 15 ∧ m ≤ left ∧ Hid (∀ i, i < n → reads l N a i → ¬ nth l i ≤ m)
      ∧ Hid (Blk wr gc 3 (arr n (fun i => (code l i : Int)))) ∧ Hid (rr wr g s a) ∧ Hid (Below w.heap.size w wr)) (fun x _ _ => 17 - (intOf x).toNat)
  case atStart => exact ⟨0, rfl, rfl, by omega, by omega, Lib.hid (fun i _ h => by have := h.1; omega), G1, Q1, B1⟩
  case round =>
    obtain ⟨m, rfl, rfl, hm, hml, HNo, G2, Q2, B2⟩ := hrel
    clear G1 Q1 B1
    have HLf : Hid (∀ u, rr u g s a → Calls Tryz.prog 55 #[.pointer (some ⟨g, 0, none⟩)] u fun e w' => e = .returned (.int .i64 (left : Int)) ∧ rr w' g s a ∧ Below u.heap.size u w') :=
      Lib.hid (fun u h => by rw [HLe.out]; exact rLeft_b h hs ha)
    by_cases hm15 : m = 15
    · subst hm15
      have HV : Hid (got l N a left = none) := Lib.hid (got_none (fun i hi hr _ => HNo.out i (by rw [← hln.out]; exact hi) hr (H15.out i)))
      go_wp2_with fail
      refine (HLf.out _ Q2.out).mono ?_
      rintro e w3 ⟨rfl, q3, b3⟩
      have hl15 : ¬ left < 15 := by omega
      go_wp2
      go_ret2
      exact ⟨by simp [gotS, gotE, HV.out, hl15], by simp only [gotA, HV.out]; exact q3, Only.of_below (grows B2.out b3)⟩
    · go_wp2_with fail
      refine (HLf.out _ Q2.out).mono ?_
      rintro e w3 ⟨rfl, q3, b3⟩
      have Q3 := Lib.hid q3
      have G3 := Lib.hid (G2.out.below b3)
      have B3 := Lib.hid (grows B2.out b3)
      clear q3 b3 Q2 G2 B2
      by_cases hmore : m + 1 ≤ left
      · have k0 := Q3.out.c0
        have k1 := Q3.out.c1
        have hv := hi_lt N a m
        have hv2 : hi N a m < 32768 := Nat.lt_of_lt_of_le hv (Nat.pow_le_pow_right (by omega) (by omega) : 2 ^ m ≤ 2 ^ 15)
        obtain ⟨v, hve⟩ : ∃ v, v = hi N a m := ⟨_, rfl⟩
        have HV : Hid (hi N a (m + 1) = 2 * v + N / 2 ^ (a + m) % 2) := Lib.hid (by rw [hi_next, hve])
        have HBt : Hid (∀ u (z : Int), z = ((a + m : Nat) : Int) → Calls Tryz.prog 56 #[.string s, .int .i64 z] u fun e w' => e = .returned (.int .i64 ((N / 2 ^ (a + m) % 2 : Nat) : Int)) ∧ w' = u) := Lib.hid (fun u z hz => by rw [HN.out, hz]; exact Bit_any s (a + m) u hs (by omega))
        obtain ⟨t, ht⟩ : ∃ t, t = N / 2 ^ (a + m) % 2 := ⟨_, rfl⟩
        have ht2 : t < 2 := by rw [ht]; exact Nat.mod_lt _ (by omega)
        rw [← ht] at HV HBt
        rw [← hve] at hv2 ⊢
        have hmi : ((m + 1 : Nat) : Int) ≤ (left : Int) := by omega
        clear hv hve ht
        go_wp2_with fail
        go_quiet ((go_at_call 56; refine Calls.quiet_of_same (HBt.out _ _ ?_); omega))
        obtain ⟨w4, hw4⟩ : ∃ w4, w4 = w3.drewN nq := ⟨_, rfl⟩
        have Q4 : Hid (rr w4 g s a) := Lib.hid (by rw [hw4]; exact Q3.out)
        have G4 : Hid (Blk w4 gc 3 (arr n (fun i => (code l i : Int)))) := Lib.hid (by rw [hw4]; exact G3.out)
        have B4 : Hid (Below w.heap.size w w4) := Lib.hid (by rw [hw4]; exact drews_below B3.out _)
        rw [← hw4]
        obtain ⟨v', hv'⟩ : ∃ v', v' = hi N a (m + 1) := ⟨_, rfl⟩
        have ev : (2 * (v : Int) + (t : Int)) = (v' : Int) := by rw [hv', HV.out]; simp
        have HV' := Lib.hid hv'
        rw [ev]
        clear hw4 k0 k1 Q3 G3 B3 HV HBt ev hv'
        go_wp2
        obtain ⟨wo, hwo⟩ : ∃ wo : World, wo = wr := ⟨_, rfl⟩
        go_loopw [10] (fun x wr => ∃ i : Nat, x = .int .i64 i ∧ i ≤ n ∧ Hid (∀ j, j < i → reads l N a j → ¬ nth l j ≤ m + 1) ∧ Hid (Blk wr gc 3 (arr n (fun i => (code l i : Int)))) ∧ Hid (rr wr g s a) ∧ Hid (Below w.heap.size w wr)) (fun x _ => n - (intOf x).toNat)
        case atStart => exact ⟨0, rfl, by omega, Lib.hid (fun j hj => absurd hj (by omega)), G4, Q4, B4⟩
        case round =>
          obtain ⟨i, rfl, hi', HNi, G5, Q5, B5⟩ := hrel
          clear G4 Q4 B4
          by_cases hin : i < n
          · have hil : Hid (i < l.length) := Lib.hid (by rw [hln.out]; exact hin)
            obtain ⟨b1, off, rfl, hbl, hx⟩ := HR.out.get (k := i) hil.out
            have kx := (B5.out.cell (p := ⟨b1, off + i, none⟩) hbl).trans hx
            have ci := (G5.out.cell i).trans (arr_get _ hin)
            have HRd := Lib.hid (reads_iff H15.out N a i)
            have HNm : Hid (reads l N a i → ¬ nth l i ≤ m) := Lib.hid (HNo.out i hin)
            have HSm : Hid (reads l N a i → nth l i ≤ left → got l N a left = some i) := Lib.hid (fun h h2 => got_some H15.out hil.out h h2)
            have HXN : Hid (∀ j, j < i + 1 → reads l N a j → (reads l N a i → ¬ nth l i ≤ m + 1) → ¬ nth l j ≤ m + 1) := Lib.hid (fun j hj hr h => by
              rcases (show j < i ∨ j = i by omega) with hj | rfl
              · exact HNi.out j hj hr
              · exact h hr)
            obtain ⟨x, hxx⟩ : ∃ x, x = nth l i := ⟨_, rfl⟩
            obtain ⟨C, hC⟩ : ∃ C, C = code l i := ⟨_, rfl⟩
            rw [← hxx] at kx HRd HNm HSm HXN
            rw [← hC] at ci HRd
            have HXI := Lib.hid hxx
            clear hx hxx hC
            by_cases hxm : x = m + 1
            · subst hxm
              by_cases hcv : C = v'
              · subst hcv
                have hre : Hid (reads l N a i) := Lib.hid (HRd.out.2 ⟨by omega, HV'.out⟩)
                have HV : Hid (got l N a left = some i) := Lib.hid (HSm.out hre.out hmore)
                have c1 := Q5.out.c1
                have f1 := Q5.out.f1
                clear HRd HNm HSm HXN
                go_wp2
                go_ret2
                refine ⟨by simp [gotS, gotE, HV.out], ?_, ?_⟩
                · simp only [gotA, HV.out]
                  exact rr_put Q5.out (by rw [← HXI.out]; simp)
                · exact (Only.of_below (S := At g) B5.out).store (p := ⟨g, 1, none⟩) (.inl (At.self g)) _
              · have hcv' : ((C : Int) == (v' : Int)) = false := by simp; omega
                have hno : Hid (reads l N a i → ¬ m + 1 ≤ m + 1) := Lib.hid (fun h => absurd ((HRd.out.1 h).2.trans HV'.out.symm) hcv)
                go_wp2
                go_roundw
                case rel => exact ⟨i + 1, by go_num, by omega, Lib.hid (fun j hj hr => HXN.out j hj hr hno.out), G5, Q5, B5⟩
                case measure => simp [intOf]; omega
            · have hxm' : ((x : Int) == ((m : Int) + 1)) = false := by simp; omega
              have hno : Hid (reads l N a i → ¬ x ≤ m + 1) := Lib.hid (fun h => by have := HNm.out h; omega)
              go_wp2
              go_roundw
              case rel => exact ⟨i + 1, by go_num, by omega, Lib.hid (fun j hj hr => HXN.out j hj hr hno.out), G5, Q5, B5⟩
              case measure => simp [intOf]; omega
          · have hi8 := Lib.hid (show i = n by omega)
            go_wp2
            go_roundw
            case rel => exact ⟨m + 1, by go_num, by rw [HV'.out], by omega, hmore, Lib.hid (fun j hj => HNi.out j (by rw [hi8.out]; exact hj)), G5, Q5, B5⟩
            case measure => simp [intOf]; omega
      · have hle : Hid (left = m) := Lib.hid (by omega)
        have HV : Hid (got l N a left = none) := Lib.hid (got_none (fun i hi hr => by rw [hle.out]; exact HNo.out i (by rw [← hln.out]; exact hi) hr))
        have hl15 : left < 15 := by have := hle.out; omega
        have hmi : ¬ ((m + 1 : Nat) : Int) ≤ (left : Int) := by omega
        go_wp2_with fail
        refine (HLf.out _ Q3.out).mono ?_
        rintro e w4 ⟨rfl, q4, b4⟩
        go_wp2
        go_ret2
        exact ⟨by simp [gotS, gotE, HV.out, hl15], by simp only [gotA, HV.out]; exact q4, Only.of_below (grows B3.out b4)⟩
end Go.Proofs.YtkcnjhkbcjnbkaaGreatDoor.Pr
namespace Go.Proofs.YtkcnjhkbcjnbkaaGreatDoor.Pw
open Go.RowKit Go.Proofs.YtkcnjhkbcjnbkaaGreatDoor.Vm Go.Proofs.YtkcnjhkbcjnbkaaGreatDoor.Vo Go.Proofs.YtkcnjhkbcjnbkaaGreatDoor.Bm Go.Proofs.YtkcnjhkbcjnbkaaGreatDoor.Bt Go.Proofs.YtkcnjhkbcjnbkaaGreatDoor.Bw Go.Proofs.YtkcnjhkbcjnbkaaGreatDoor.Bp Go.Proofs.YtkcnjhkbcjnbkaaGreatDoor.Bq Go.Proofs.YtkcnjhkbcjnbkaaGreatDoor.Bs Go.Proofs.YtkcnjhkbcjnbkaaGreatDoor.Bv Go.Proofs.YtkcnjhkbcjnbkaaGreatDoor.Bx Go.Proofs.YtkcnjhkbcjnbkaaGreatDoor.Be Go.Proofs.YtkcnjhkbcjnbkaaGreatDoor.Na Go.Proofs.YtkcnjhkbcjnbkaaGreatDoor.Nm Go.Proofs.YtkcnjhkbcjnbkaaGreatDoor.Nw Go.Proofs.YtkcnjhkbcjnbkaaGreatDoor.Ni Go.Proofs.YtkcnjhkbcjnbkaaGreatDoor.Nc Go.Proofs.YtkcnjhkbcjnbkaaGreatDoor.Nd Go.Proofs.YtkcnjhkbcjnbkaaGreatDoor.Ne Go.Proofs.YtkcnjhkbcjnbkaaGreatDoor.Nf Go.Proofs.YtkcnjhkbcjnbkaaGreatDoor.Ng Go.Proofs.YtkcnjhkbcjnbkaaGreatDoor.Pm Go.Proofs.YtkcnjhkbcjnbkaaGreatDoor.Pr

/-- What Write answers. -/
def wrE (n : Nat) (f : Nat → Int) (y : Int) : Int := if err n f ≠ 0 then err n f else if y < 0 ∨ (n : Int) ≤ y ∨ nth (L n f) y.toNat = 0 then 1 else 0
/-- How many bits stand behind it, and which. -/
def wrZ (n : Nat) (f : Nat → Int) (y : Int) (z : Nat) : Nat := if wrE n f y = 0 then z + nth (L n f) y.toNat else z
def wrN (n : Nat) (f : Nat → Int) (y : Int) (N z : Nat) : Nat := if wrE n f y = 0 then N + turnN (code (L n f) y.toNat) (nth (L n f) y.toNat) * 2 ^ z else N
theorem wrE_cases (n : Nat) (f : Nat → Int) (y : Int) : (err n f ≠ 0 ∧ wrE n f y = err n f) ∨ (err n f = 0 ∧ wrE n f y = 1 ∧ (y < 0 ∨ (n : Int) ≤ y ∨ ∃ k : Nat, y = (k : Int) ∧ k < n ∧ nth (L n f) k = 0)) ∨ (err n f = 0 ∧ wrE n f y = 0 ∧ ∃ k : Nat, y = (k : Int) ∧ k < n ∧ 0 < nth (L n f) k) := by
  unfold wrE
  by_cases he : err n f = 0
  · rw [if_neg (by omega)]
    by_cases h : y < 0 ∨ (n : Int) ≤ y ∨ nth (L n f) y.toNat = 0
    · refine .inr (.inl ⟨he, if_pos h, ?_⟩)
      rcases (show y < 0 ∨ (n : Int) ≤ y ∨ (0 ≤ y ∧ y < n) by omega) with h1 | h1 | h1
      · exact .inl h1
      · exact .inr (.inl h1)
      · rcases h with h | h | h
        · exact .inl h
        · exact .inr (.inl h)
        · exact .inr (.inr ⟨y.toNat, by omega, by omega, h⟩)
    · have h' : 0 ≤ y ∧ y < n ∧ nth (L n f) y.toNat ≠ 0 := ⟨by omega, by omega, fun e => h (.inr (.inr e))⟩
      exact .inr (.inr ⟨he, if_neg h, y.toNat, by omega, by omega, by omega⟩)
  · exact .inl ⟨he, if_pos he⟩
theorem put_code {c m : Nat} (hm : m ≤ 32) (hc : c < 2 ^ m) : putE (c : Int) (m : Int) = 0 := by
  unfold putE
  rw [if_pos]
  refine ⟨by simp [cnt]; omega, ?_⟩
  have : ((c / 2 ^ m : Nat) : Int) = 0 := by rw [Nat.div_eq_of_lt hc]; rfl
  simpa using this
end Go.Proofs.YtkcnjhkbcjnbkaaGreatDoor.Pw
namespace Go.Proofs.YtkcnjhkbcjnbkaaGreatDoor.Pi
open Go.RowKit Go.Proofs.YtkcnjhkbcjnbkaaGreatDoor.Vm Go.Proofs.YtkcnjhkbcjnbkaaGreatDoor.Vo Go.Proofs.YtkcnjhkbcjnbkaaGreatDoor.Bm Go.Proofs.YtkcnjhkbcjnbkaaGreatDoor.Bt Go.Proofs.YtkcnjhkbcjnbkaaGreatDoor.Bw Go.Proofs.YtkcnjhkbcjnbkaaGreatDoor.Bp Go.Proofs.YtkcnjhkbcjnbkaaGreatDoor.Bs Go.Proofs.YtkcnjhkbcjnbkaaGreatDoor.Bv Go.Proofs.YtkcnjhkbcjnbkaaGreatDoor.Bx Go.Proofs.YtkcnjhkbcjnbkaaGreatDoor.Na Go.Proofs.YtkcnjhkbcjnbkaaGreatDoor.Nm Go.Proofs.YtkcnjhkbcjnbkaaGreatDoor.Nw Go.Proofs.YtkcnjhkbcjnbkaaGreatDoor.Ni Go.Proofs.YtkcnjhkbcjnbkaaGreatDoor.Nc Go.Proofs.YtkcnjhkbcjnbkaaGreatDoor.Nd Go.Proofs.YtkcnjhkbcjnbkaaGreatDoor.Ne Go.Proofs.YtkcnjhkbcjnbkaaGreatDoor.Nf Go.Proofs.YtkcnjhkbcjnbkaaGreatDoor.Pm Go.Proofs.YtkcnjhkbcjnbkaaGreatDoor.Pr Go.Proofs.YtkcnjhkbcjnbkaaGreatDoor.Pw

end Go.Proofs.YtkcnjhkbcjnbkaaGreatDoor.Pi
