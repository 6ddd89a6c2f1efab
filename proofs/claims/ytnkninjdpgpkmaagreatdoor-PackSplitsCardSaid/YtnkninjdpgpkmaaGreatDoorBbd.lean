/-
  The reference's Read and Write of prefix codes.
  The reference's Write of prefix codes.
  Write, called with a writer that Open made: what it answers, and the bits behind it; of what was there only the writer and its bytes have changed.
  Conditions: as each theorem says.
-/
import Derived.Test.YtnkninjdpgpkmaaGreatDoorBai
import Derived.Test.YtnkninjdpgpkmaaGreatDoorBba
import Derived.Test.YtnkninjdpgpkmaaGreatDoorBbc
import Derived.Test.YtnkninjdpgpkmaaGreatDoorBay
import Derived.Test.YtnkninjdpgpkmaaGreatDoorBaf
import Derived.Deep.QuietTactic
import Derived.BigQuiet
import Derived.StillTailTactics
import Derived.Test.YtnkninjdpgpkmaaGreatDoorBbb
namespace Go.Proofs.YtnkninjdpgpkmaaGreatDoor.Pr
open Go.RowKit Go.Proofs.YtnkninjdpgpkmaaGreatDoor.Vm Go.Proofs.YtnkninjdpgpkmaaGreatDoor.Bm Go.Proofs.YtnkninjdpgpkmaaGreatDoor.Bw Go.Proofs.YtnkninjdpgpkmaaGreatDoor.Bp Go.Proofs.YtnkninjdpgpkmaaGreatDoor.Bq Go.Proofs.YtnkninjdpgpkmaaGreatDoor.Bs Go.Proofs.YtnkninjdpgpkmaaGreatDoor.Na Go.Proofs.YtnkninjdpgpkmaaGreatDoor.Nm Go.Proofs.YtnkninjdpgpkmaaGreatDoor.Nw Go.Proofs.YtnkninjdpgpkmaaGreatDoor.Ni Go.Proofs.YtnkninjdpgpkmaaGreatDoor.Nc Go.Proofs.YtnkninjdpgpkmaaGreatDoor.Nd Go.Proofs.YtnkninjdpgpkmaaGreatDoor.Ne Go.Proofs.YtnkninjdpgpkmaaGreatDoor.Nf Go.Proofs.YtnkninjdpgpkmaaGreatDoor.Ng Go.Proofs.YtnkninjdpgpkmaaGreatDoor.Pm

theorem drews_below {B : Nat} {a b : World} (h : Below B a b) (n : Nat) : Below B a (b.drewN n) := ⟨h.os, h.tape, h.output, h.size, h.block⟩

set_option maxHeartbeats 1000000 in
set_option maxRecDepth 100000 in
theorem rRead_any {A : Option Addr} {n cap : Nat} {f : Nat → Int} {w : World} {g : Nat} {s : ByteArray} {a : Nat} (he : err n f = 0) (HC : Hid (row w A n f)) (HQ : Hid (rr w g s a)) (hs : s.size ≤ 281474976710656) (ha : a ≤ 8 * s.size) :
    Calls Tryz.prog 67 #[.pointer (some ⟨g, 0, none⟩), .slice A n cap] w fun e w' => e = .returned (.tuple #[.int .i64 (gotS (L n f) (num s.data.toList) a (8 * s.size - a)), .int .i64 (gotE (L n f) (num s.data.toList) a (8 * s.size - a))])
      ∧ rr w' g s (gotA (L n f) (num s.data.toList) a (8 * s.size - a)) ∧ Only (At g) w w' := by
  obtain ⟨h1, h2, h3⟩ := err_zero he
  have HO := Lib.hid (rCodes_ok (cap := cap) he HC)
  have HR := Lib.hid (L_row h2 HC.out)
  have H15 := Lib.hid (L_le h2)
  obtain ⟨l, hl⟩ : ∃ l, l = L n f := ⟨_, rfl⟩
  have hln : Hid (l.length = n) := Lib.hid (by rw [hl, L_length])
  rw [← hl] at HO HR H15 h3 ⊢
  obtain ⟨N, hN⟩ : ∃ N, N = num s.data.toList := ⟨_, rfl⟩
  rw [← hN]
  have HN := Lib.hid hN
  obtain ⟨left, hleft⟩ : ∃ left, left = 8 * s.size - a := ⟨_, rfl⟩
  rw [← hleft]
  have HLe := Lib.hid hleft
  have hlb : left ≤ 9000000000000000 := by omega
  have H3 := Lib.hid h3
  clear hl h2 h3 he HC hN hleft
  go_enter Tryz.func67, Tryz.ntmps67
  go_wp2_with fail
  refine HO.out.mono ?_
  rintro e w1 ⟨gc, rfl, hg, _, hb1⟩
  have B1 := Lib.hid hb1
  have G1 := Lib.hid hg
  have Q1 := Lib.hid (HQ.out.below hb1)
  clear hb1 hg HO
  go_wp2
  go_loopw [9, 8] (fun x y wr => ∃ m : Nat, x = .int .i64 ((m + 1 : Nat) : Int) ∧ y = .int .i64 (hi N a m) ∧ m ≤ 15 ∧ m ≤ left ∧ Hid (∀ i, i < n → reads l N a i → ¬ nth l i ≤ m)
      ∧ Hid (Blk wr gc 3 (arr n (fun i => (code l i : Int)))) ∧ Hid (rr wr g s a) ∧ Hid (Below w.heap.size w wr)) (fun x _ _ => 17 - (intOf x).toNat)
  case atStart => exact ⟨0, rfl, rfl, by omega, by omega, Lib.hid (fun i _ h => by have := h.1; omega), G1, Q1, B1⟩
  case round =>
    obtain ⟨m, rfl, rfl, hm, hml, HNo, G2, Q2, B2⟩ := hrel
    clear G1 Q1 B1
    have HLf : Hid (∀ u, rr u g s a → Calls Tryz.prog 103 #[.pointer (some ⟨g, 0, none⟩)] u fun e w' => e = .returned (.int .i64 (left : Int)) ∧ rr w' g s a ∧ Below u.heap.size u w') :=
      Lib.hid (fun u h => by rw [HLe.out]; exact rLeft_b h hs ha)
    by_cases hm15 : m = 15
    · subst hm15
      have HV : Hid (got l N a left = none) := Lib.hid (got_none (fun i hi hr _ => HNo.out i (by rw [← hln.out]; exact hi) hr (H15.out i)))
      go_wp2_with fail
      refine (HLf.out _ Q2.out).mono ?_
      rintro e w3 ⟨rfl, q3, b3⟩
      have hl15 : ¬ left < 15 := by omega
      go_wp2
      go_ret2
      exact ⟨by simp [gotS, gotE, HV.out, hl15], by simp only [gotA, HV.out]; exact q3, Only.of_below (grows B2.out b3)⟩
    · go_wp2_with fail
      refine (HLf.out _ Q2.out).mono ?_
      rintro e w3 ⟨rfl, q3, b3⟩
      have Q3 := Lib.hid q3
      have G3 := Lib.hid (G2.out.below b3)
      have B3 := Lib.hid (grows B2.out b3)
      clear q3 b3 Q2 G2 B2
      by_cases hmore : m + 1 ≤ left
      · have k0 := Q3.out.c0
        have k1 := Q3.out.c1
        have hv := hi_lt N a m
        have hv2 : hi N a m < 32768 := Nat.lt_of_lt_of_le hv (Nat.pow_le_pow_right (by omega) (by omega) : 2 ^ m ≤ 2 ^ 15)
        obtain ⟨v, hve⟩ : ∃ v, v = hi N a m := ⟨_, rfl⟩
        have HV : Hid (hi N a (m + 1) = 2 * v + N / 2 ^ (a + m) % 2) := Lib.hid (by rw [hi_next, hve])
        have HBt : Hid (∀ u (z : Int), z = ((a + m : Nat) : Int) → Calls Tryz.prog 104 #[.string s, .int .i64 z] u fun e w' => e = .returned (.int .i64 ((N / 2 ^ (a + m) % 2 : Nat) : Int)) ∧ w' = u) := Lib.hid (fun u z hz => by rw [HN.out, hz]; exact Bit_any s (a + m) u hs (by omega))
        obtain ⟨t, ht⟩ : ∃ t, t = N / 2 ^ (a + m) % 2 := ⟨_, rfl⟩
        have ht2 : t < 2 := by rw [ht]; exact Nat.mod_lt _ (by omega)
        rw [← ht] at HV HBt
        rw [← hve] at hv2 ⊢
        have hmi : ((m + 1 : Nat) : Int) ≤ (left : Int) := by omega
        clear hv hve ht
        go_wp2_with fail
        go_quiet ((go_at_call 104; refine Calls.quiet_of_same (HBt.out _ _ ?_); omega))
        obtain ⟨w4, hw4⟩ : ∃ w4, w4 = w3.drewN nq := ⟨_, rfl⟩
        have Q4 : Hid (rr w4 g s a) := Lib.hid (by rw [hw4]; exact Q3.out)
        have G4 : Hid (Blk w4 gc 3 (arr n (fun i => (code l i : Int)))) := Lib.hid (by rw [hw4]; exact G3.out)
        have B4 : Hid (Below w.heap.size w w4) := Lib.hid (by rw [hw4]; exact drews_below B3.out _)
        rw [← hw4]
        obtain ⟨v', hv'⟩ : ∃ v', v' = hi N a (m + 1) := ⟨_, rfl⟩
        have ev : (2 * (v : Int) + (t : Int)) = (v' : Int) := by rw [hv', HV.out]; simp
        have HV' := Lib.hid hv'
        rw [ev]
        clear hw4 k0 k1 Q3 G3 B3 HV HBt ev hv'
        go_wp2
        obtain ⟨wo, hwo⟩ : ∃ wo : World, wo = wr := ⟨_, rfl⟩
        go_loopw [10] (fun x wr => ∃ i : Nat, x = .int .i64 i ∧ i ≤ n ∧ Hid (∀ j, j < i → reads l N a j → ¬ nth l j ≤ m + 1) ∧ Hid (Blk wr gc 3 (arr n (fun i => (code l i : Int)))) ∧ Hid (rr wr g s a) ∧ Hid (Below w.heap.size w wr)) (fun x _ => n - (intOf x).toNat)
        case atStart => exact ⟨0, rfl, by omega, Lib.hid (fun j hj => absurd hj (by omega)), G4, Q4, B4⟩
        case round =>
          obtain ⟨i, rfl, hi', HNi, G5, Q5, B5⟩ := hrel
          clear G4 Q4 B4
          by_cases hin : i < n
          · have hil : Hid (i < l.length) := Lib.hid (by rw [hln.out]; exact hin)
            obtain ⟨b1, off, rfl, hbl, hx⟩ := HR.out.get (k := i) hil.out
            have kx := (B5.out.cell (p := ⟨b1, off + i, none⟩) hbl).trans hx
            have ci := (G5.out.cell i).trans (arr_get _ hin)
            have HRd := Lib.hid (reads_iff H15.out N a i)
            have HNm : Hid (reads l N a i → ¬ nth l i ≤ m) := Lib.hid (HNo.out i hin)
            have HSm : Hid (reads l N a i → nth l i ≤ left → got l N a left = some i) := Lib.hid (fun h h2 => got_some H15.out hil.out h h2)
            have HXN : Hid (∀ j, j < i + 1 → reads l N a j → (reads l N a i → ¬ nth l i ≤ m + 1) → ¬ nth l j ≤ m + 1) := Lib.hid (fun j hj hr h => by
              rcases (show j < i ∨ j = i by omega) with hj | rfl
              · exact HNi.out j hj hr
              · exact h hr)
            obtain ⟨x, hxx⟩ : ∃ x, x = nth l i := ⟨_, rfl⟩
            obtain ⟨C, hC⟩ : ∃ C, C = code l i := ⟨_, rfl⟩
            rw [← hxx] at kx HRd HNm HSm HXN
            rw [← hC] at ci HRd
            have HXI := Lib.hid hxx
            clear hx hxx hC
            by_cases hxm : x = m + 1
            · subst hxm
              by_cases hcv : C = v'
              · subst hcv
                have hre : Hid (reads l N a i) := Lib.hid (HRd.out.2 ⟨by omega, HV'.out⟩)
                have HV : Hid (got l N a left = some i) := Lib.hid (HSm.out hre.out hmore)
                have c1 := Q5.out.c1
                have f1 := Q5.out.f1
                clear HRd HNm HSm HXN
                go_wp2
                go_ret2
                refine ⟨by simp [gotS, gotE, HV.out], ?_, ?_⟩
                · simp only [gotA, HV.out]
                  exact rr_put Q5.out (by rw [← HXI.out]; simp)
                · exact (Only.of_below (S := At g) B5.out).store (p := ⟨g, 1, none⟩) (.inl (At.self g)) _
              · have hcv' : ((C : Int) == (v' : Int)) = false := by simp; omega
                have hno : Hid (reads l N a i → ¬ m + 1 ≤ m + 1) := Lib.hid (fun h => absurd ((HRd.out.1 h).2.trans HV'.out.symm) hcv)
                go_wp2
                go_roundw
                case rel => exact ⟨i + 1, by go_num, by omega, Lib.hid (fun j hj hr => HXN.out j hj hr hno.out), G5, Q5, B5⟩
                case measure => simp [intOf]; omega
            · have hxm' : ((x : Int) == ((m : Int) + 1)) = false := by simp; omega
              have hno : Hid (reads l N a i → ¬ x ≤ m + 1) := Lib.hid (fun h => by have := HNm.out h; omega)
              go_wp2
              go_roundw
              case rel => exact ⟨i + 1, by go_num, by omega, Lib.hid (fun j hj hr => HXN.out j hj hr hno.out), G5, Q5, B5⟩
              case measure => simp [intOf]; omega
          · have hi8 := Lib.hid (show i = n by omega)
            go_wp2
            go_roundw
            case rel => exact ⟨m + 1, by go_num, by rw [HV'.out], by omega, hmore, Lib.hid (fun j hj => HNi.out j (by rw [hi8.out]; exact hj)), G5, Q5, B5⟩
            case measure => simp [intOf]; omega
      · have hle : Hid (left = m) := Lib.hid (by omega)
        have HV : Hid (got l N a left = none) := Lib.hid (got_none (fun i hi hr => by rw [hle.out]; exact HNo.out i (by rw [← hln.out]; exact hi) hr))
        have hl15 : left < 15 := by have := hle.out; omega
        have hmi : ¬ ((m + 1 : Nat) : Int) ≤ (left : Int) := by omega
        go_wp2_with fail
        refine (HLf.out _ Q3.out).mono ?_
        rintro e w4 ⟨rfl, q4, b4⟩
        go_wp2
        go_ret2
        exact ⟨by simp [gotS, gotE, HV.out, hl15], by simp only [gotA, HV.out]; exact q4, Only.of_below (grows B3.out b4)⟩
end Go.Proofs.YtnkninjdpgpkmaaGreatDoor.Pr
namespace Go.Proofs.YtnkninjdpgpkmaaGreatDoor.Pw
open Go.RowKit Go.Proofs.YtnkninjdpgpkmaaGreatDoor.Vm Go.Proofs.YtnkninjdpgpkmaaGreatDoor.Vo Go.Proofs.YtnkninjdpgpkmaaGreatDoor.Bm Go.Proofs.YtnkninjdpgpkmaaGreatDoor.Bt Go.Proofs.YtnkninjdpgpkmaaGreatDoor.Bw Go.Proofs.YtnkninjdpgpkmaaGreatDoor.Bp Go.Proofs.YtnkninjdpgpkmaaGreatDoor.Bq Go.Proofs.YtnkninjdpgpkmaaGreatDoor.Bs Go.Proofs.YtnkninjdpgpkmaaGreatDoor.Bv Go.Proofs.YtnkninjdpgpkmaaGreatDoor.Bx Go.Proofs.YtnkninjdpgpkmaaGreatDoor.Be Go.Proofs.YtnkninjdpgpkmaaGreatDoor.Na Go.Proofs.YtnkninjdpgpkmaaGreatDoor.Nm Go.Proofs.YtnkninjdpgpkmaaGreatDoor.Nw Go.Proofs.YtnkninjdpgpkmaaGreatDoor.Ni Go.Proofs.YtnkninjdpgpkmaaGreatDoor.Nc Go.Proofs.YtnkninjdpgpkmaaGreatDoor.Nd Go.Proofs.YtnkninjdpgpkmaaGreatDoor.Ne Go.Proofs.YtnkninjdpgpkmaaGreatDoor.Nf Go.Proofs.YtnkninjdpgpkmaaGreatDoor.Ng Go.Proofs.YtnkninjdpgpkmaaGreatDoor.Pm Go.Proofs.YtnkninjdpgpkmaaGreatDoor.Pr

/-- What Write answers. -/
def wrE (n : Nat) (f : Nat → Int) (y : Int) : Int := if err n f ≠ 0 then err n f else if y < 0 ∨ (n : Int) ≤ y ∨ nth (L n f) y.toNat = 0 then 1 else 0
/-- How many bits stand behind it, and which. -/
def wrZ (n : Nat) (f : Nat → Int) (y : Int) (z : Nat) : Nat := if wrE n f y = 0 then z + nth (L n f) y.toNat else z
def wrN (n : Nat) (f : Nat → Int) (y : Int) (N z : Nat) : Nat := if wrE n f y = 0 then N + turnN (code (L n f) y.toNat) (nth (L n f) y.toNat) * 2 ^ z else N
theorem wrE_cases (n : Nat) (f : Nat → Int) (y : Int) : (err n f ≠ 0 ∧ wrE n f y = err n f) ∨ (err n f = 0 ∧ wrE n f y = 1 ∧ (y < 0 ∨ (n : Int) ≤ y ∨ ∃ k : Nat, y = (k : Int) ∧ k < n ∧ nth (L n f) k = 0)) ∨ (err n f = 0 ∧ wrE n f y = 0 ∧ ∃ k : Nat, y = (k : Int) ∧ k < n ∧ 0 < nth (L n f) k) := by
  unfold wrE
  by_cases he : err n f = 0
  · rw [if_neg (by omega)]
    by_cases h : y < 0 ∨ (n : Int) ≤ y ∨ nth (L n f) y.toNat = 0
    · refine .inr (.inl ⟨he, if_pos h, ?_⟩)
      rcases (show y < 0 ∨ (n : Int) ≤ y ∨ (0 ≤ y ∧ y < n) by omega) with h1 | h1 | h1
      · exact .inl h1
      · exact .inr (.inl h1)
      · rcases h with h | h | h
        · exact .inl h
        · exact .inr (.inl h)
        · exact .inr (.inr ⟨y.toNat, by omega, by omega, h⟩)
    · have h' : 0 ≤ y ∧ y < n ∧ nth (L n f) y.toNat ≠ 0 := ⟨by omega, by omega, fun e => h (.inr (.inr e))⟩
      exact .inr (.inr ⟨he, if_neg h, y.toNat, by omega, by omega, by omega⟩)
  · exact .inl ⟨he, if_pos he⟩
theorem put_code {c m : Nat} (hm : m ≤ 32) (hc : c < 2 ^ m) : putE (c : Int) (m : Int) = 0 := by
  unfold putE
  rw [if_pos]
  refine ⟨by simp [cnt]; omega, ?_⟩
  have : ((c / 2 ^ m : Nat) : Int) = 0 := by rw [Nat.div_eq_of_lt hc]; rfl
  simpa using this
theorem rw_below {base : Nat} {w w' : World} {g : Nat} {v : Value} {bs : List UInt8} (h : rw' base w g v bs) (k : Below w.heap.size w w') : rw' base w' g v bs :=
  ⟨Blk.below h.b k, own_only h.o (Only.of_below (S := fun _ => False) k) (fun _ _ h => h), h.ok⟩

set_option maxHeartbeats 1000000 in
set_option maxRecDepth 100000 in
theorem rWrite_any (base : Nat) {A : Option Addr} {n cap : Nat} {f : Nat → Int} {w : World} {g : Nat} {v : Value} {bs : List UInt8} (y : Int) (hn : n ≤ 9223372036854775807) (HC : Hid (row w A n f)) (HW : Hid (rw' base w g v bs)) (hb : base ≤ w.heap.size) (hz : bs.length ≤ 70368744177664) :
    Calls Tryz.prog 56 #[.pointer (some ⟨g, 0, none⟩), .slice A n cap, .int .i64 y] w fun e w' => e = .returned (.int .i64 (wrE n f y))
      ∧ ∃ v' bs', rw' base w' g v' bs' ∧ bs'.length = wrZ n f y bs.length ∧ bitN bs' = wrN n f y (bitN bs) bs.length ∧ Only (own g v) w w' ∧ later w v v' := by
  rcases wrE_cases n f y with ⟨he, hv⟩ | ⟨he, hv, hc⟩ | ⟨he, hv, k, rfl, hk, h0⟩
  · have HO := Lib.hid (rCodes_no (cap := cap) hn he HC)
    have HE := Lib.hid hv
    have HE2 := Lib.hid (show wrE n f y ≠ 0 by rw [hv]; exact he)
    obtain ⟨e, hee⟩ : ∃ e, e = err n f := ⟨_, rfl⟩
    rw [← hee] at HO HE he
    clear hee hv HC
    go_enter Tryz.func56, Tryz.ntmps56
    go_wp2_with fail
    refine HO.out.mono ?_
    rintro e w1 ⟨rfl, b1⟩
    go_wp2
    go_ret
    exact ⟨ret_i64 HE.out.symm, v, bs, rw_below HW.out b1, by rw [wrZ, if_neg HE2.out], by rw [wrN, if_neg HE2.out], Only.of_below b1, .inl rfl⟩
  · have HO := Lib.hid (rCodes_ok (cap := cap) he HC)
    obtain ⟨h1, h2, h3⟩ := err_zero he
    have HR := Lib.hid (L_row h2 HC.out)
    have HE := Lib.hid hv
    have HE2 := Lib.hid (show wrE n f y ≠ 0 by rw [hv]; decide)
    have hln := Lib.hid (L_length n f)
    clear hv he h2 h3 HC
    rcases (show y < 0 ∨ (0 ≤ y ∧ (n : Int) ≤ y) ∨ ∃ k : Nat, y = (k : Int) ∧ k < n ∧ nth (L n f) k = 0 by
      rcases hc with h | h | h
      · exact .inl h
      · exact .inr (.inl ⟨by omega, h⟩)
      · exact .inr (.inr h)) with h | h | ⟨k, rfl, hk, h0⟩
    · clear hc
      go_enter Tryz.func56, Tryz.ntmps56
      go_wp2_with fail
      refine HO.out.mono ?_
      rintro e w1 ⟨gc, rfl, _, _, b1⟩
      go_wp2
      go_ret
      exact ⟨ret_i64 HE.out.symm, v, bs, rw_below HW.out b1, by rw [wrZ, if_neg HE2.out], by rw [wrN, if_neg HE2.out], Only.of_below b1, .inl rfl⟩
    · clear hc
      obtain ⟨ha, hb'⟩ := h
      have ha' : ¬ y < 0 := by omega
      go_enter Tryz.func56, Tryz.ntmps56
      go_wp2_with fail
      refine HO.out.mono ?_
      rintro e w1 ⟨gc, rfl, _, _, b1⟩
      go_wp2
      go_ret
      exact ⟨ret_i64 HE.out.symm, v, bs, rw_below HW.out b1, by rw [wrZ, if_neg HE2.out], by rw [wrN, if_neg HE2.out], Only.of_below b1, .inl rfl⟩
    · clear hc
      obtain ⟨b1', off, rfl, hbl, hx⟩ := HR.out.get (k := k) (by rw [hln.out]; exact hk)
      rw [h0] at hx
      have HX := Lib.hid hx
      clear hx h0
      go_enter Tryz.func56, Tryz.ntmps56
      go_wp2_with fail
      refine HO.out.mono ?_
      rintro e w1 ⟨gc, rfl, _, _, b1⟩
      have kx := (b1.cell (p := ⟨b1', off + k, none⟩) hbl).trans HX.out
      go_wp2
      go_ret
      exact ⟨ret_i64 HE.out.symm, v, bs, rw_below HW.out b1, by rw [wrZ, if_neg HE2.out], by rw [wrN, if_neg HE2.out], Only.of_below b1, .inl rfl⟩
  · have HO := Lib.hid (rCodes_ok (cap := cap) he HC)
    obtain ⟨h1, h2, h3⟩ := err_zero he
    have HR := Lib.hid (L_row h2 HC.out)
    have hln := Lib.hid (L_length n f)
    have hk15 := L_le h2 k
    obtain ⟨b1', off, rfl, hbl, hx⟩ := HR.out.get (k := k) (by rw [hln.out]; exact hk)
    have hcl := code_lt (l := L n f) (i := k) (by rw [hln.out]; exact hk) hk15 h3
    have HE := Lib.hid hv
    have HP := Lib.hid (put_code (by omega) hcl)
    have HZ : Hid (wrZ n f k bs.length = putZ bs.length (code (L n f) k : Int) (nth (L n f) k : Int) ∧ wrN n f k (bitN bs) bs.length = codeN (bitN bs) bs.length (code (L n f) k : Int) (nth (L n f) k : Int)) := Lib.hid (by
      rw [wrZ, wrN, putZ, codeN, if_pos hv, if_pos hv, if_pos HP.out, if_pos HP.out]
      simp)
    have HX := Lib.hid hx
    obtain ⟨x, hxx⟩ : ∃ x, x = nth (L n f) k := ⟨_, rfl⟩
    have HXX := Lib.hid hxx
    rw [← hxx] at HX h0 hk15 HP HZ
    have h0' : ((x : Int) == 0) = false := by simp; omega
    clear hv he h2 h3 HC hx hxx hcl
    go_enter Tryz.func56, Tryz.ntmps56
    go_wp2_with fail
    refine HO.out.mono ?_
    rintro e w1 ⟨gc, rfl, hg, _, b1⟩
    have kx := (b1.cell (p := ⟨b1', off + k, none⟩) hbl).trans HX.out
    have ci := (hg.cell k).trans (arr_get _ hk)
    have W1 := Lib.hid (rw_below HW.out b1)
    have B1 := Lib.hid b1
    obtain ⟨C, hC⟩ : ∃ C, C = code (L n f) k := ⟨_, rfl⟩
    rw [← hC] at ci HP HZ
    clear hg b1 hC
    go_wp2_with fail
    go_still_tail 9, (by kernel_rfl)
    go_wp2_with fail
    refine (rCode_any base (C : Int) (x : Int) (rw_below W1.out (below_draws _ 1)) (by have := B1.out.size; show base ≤ w1.heap.size; omega) hz).mono ?_
    rintro e w2 ⟨rfl, v', bs', r2, z2, n2, o2, l2⟩
    rw [HP.out]
    go_wp2
    go_ret
    refine ⟨ret_i64 HE.out.symm, v', bs', r2, by rw [HZ.out.1]; exact z2, by rw [HZ.out.2]; exact n2, ?_, ?_⟩
    · exact (Only.of_below (drews_below B1.out 1)).then o2 (fun i hi _ => hi)
    · rcases l2 with l2 | ⟨j, hj, l2⟩
      · exact .inl l2
      · exact .inr ⟨j, Nat.le_trans B1.out.size hj, l2⟩
end Go.Proofs.YtnkninjdpgpkmaaGreatDoor.Pw
namespace Go.Proofs.YtnkninjdpgpkmaaGreatDoor.Pi
open Go.RowKit Go.Proofs.YtnkninjdpgpkmaaGreatDoor.Vm Go.Proofs.YtnkninjdpgpkmaaGreatDoor.Vo Go.Proofs.YtnkninjdpgpkmaaGreatDoor.Bm Go.Proofs.YtnkninjdpgpkmaaGreatDoor.Bt Go.Proofs.YtnkninjdpgpkmaaGreatDoor.Bw Go.Proofs.YtnkninjdpgpkmaaGreatDoor.Bp Go.Proofs.YtnkninjdpgpkmaaGreatDoor.Bs Go.Proofs.YtnkninjdpgpkmaaGreatDoor.Bv Go.Proofs.YtnkninjdpgpkmaaGreatDoor.Bx Go.Proofs.YtnkninjdpgpkmaaGreatDoor.Na Go.Proofs.YtnkninjdpgpkmaaGreatDoor.Nm Go.Proofs.YtnkninjdpgpkmaaGreatDoor.Nw Go.Proofs.YtnkninjdpgpkmaaGreatDoor.Ni Go.Proofs.YtnkninjdpgpkmaaGreatDoor.Nc Go.Proofs.YtnkninjdpgpkmaaGreatDoor.Nd Go.Proofs.YtnkninjdpgpkmaaGreatDoor.Ne Go.Proofs.YtnkninjdpgpkmaaGreatDoor.Nf Go.Proofs.YtnkninjdpgpkmaaGreatDoor.Pm Go.Proofs.YtnkninjdpgpkmaaGreatDoor.Pr Go.Proofs.YtnkninjdpgpkmaaGreatDoor.Pw

theorem wt_below {base : Nat} {w w' : World} {g : Nat} {v : Value} {bs : List UInt8} {z : Nat} (h : wt base w g v bs z) (k : Below w.heap.size w w') : wt base w' g v bs z :=
  ⟨Blk.below h.b k, own_only h.o (Only.of_below (S := fun _ => False) k) (fun _ _ h => h), h.lt, h.len⟩
theorem own_below {base : Nat} {W w w' : World} {g : Nat} {v : Value} {bs : List UInt8} {z : Nat} (h : wt base w g v bs z) (hg : base ≤ g) (hB : Below base W w) (hb : base ≤ w.heap.size) (k : Only (own g v) w w') : Below base W w' :=
  k.below hB hb (fun i hi => by
    rcases hi with hi | hi
    · rw [hi]; exact hg
    · exact (h.o.lt i hi).1)
theorem put_none (base : Nat) {w : World} {g : Nat} {v : Value} {bs : List UInt8} {z : Nat} (h : wt base w g v bs z) (hb : base ≤ w.heap.size) (hz : z ≤ 562949953421312) :
    Calls Tryz.prog 113 #[.pointer (some ⟨g, 0, none⟩), .int .i64 0, .int .i64 0] w fun e w' => e = .returned (.int .i64 0) ∧ ∃ v' l', wt base w' g v' l' z ∧ num l' = num bs ∧ Only (own g v) w w' ∧ later w v v' := by
  have e : putE 0 0 = 0 := by decide
  have e2 : putZ z 0 0 = z := by simp [putZ, e]
  have e3 : putN (num bs) z 0 0 = num bs := by simp [putN, e]
  have := Put_any base 0 0 h hb hz
  rw [e, e2, e3] at this
  exact this

/-- The row behind a call that writes the writer. -/
structure wrote (base : Nat) (W w w1 : World) (A : Option Addr) (n : Nat) (f : Nat → Int) (g : Nat) (v v1 : Value) (bs l1 : List UInt8) (z : Nat) : Prop where
  t : wt base w1 g v1 l1 z
  e : num l1 = num bs
  o : Only (own g v) w w1
  l : later w v v1
  r : row w1 A n f
  b : base ≤ w1.heap.size

set_option maxHeartbeats 1000000 in
set_option maxRecDepth 100000 in
/-- .. the row stays where the writer writes. -/
theorem Write_gen (base : Nat) {A : Option Addr} {n cap : Nat} {f : Nat → Int} {w : World} {g : Nat} {v : Value} {bs : List UInt8} {z : Nat} (y : Int) (hn : n ≤ 9223372036854775807) (HC : Hid (∀ u, Only (own g v) w u → row u A n f)) (hb : base ≤ w.heap.size) (HW : Hid (wt base w g v bs z)) (hz : z ≤ 562949953421312) :
    Calls Tryz.prog 141 #[.pointer (some ⟨g, 0, none⟩), .slice A n cap, .int .i64 y] w fun e w' => e = .returned (.int .i64 (wrE n f y))
      ∧ ∃ v' l', wt base w' g v' l' (wrZ n f y z) ∧ num l' = wrN n f y (num bs) z ∧ Only (own g v) w w' ∧ later w v v' := by
  have HPut : Hid (Calls Tryz.prog 113 #[.pointer (some ⟨g, 0, none⟩), .int .i64 0, .int .i64 0] w fun e w' => e = .returned (.int .i64 0) ∧ ∃ v1 l1, wrote base w w w' A n f g v v1 bs l1 z) := Lib.hid (by
    refine (put_none base HW.out hb hz).mono ?_
    rintro e w' ⟨rfl, v1, l1, t1, e1, o1, l1'⟩
    exact ⟨rfl, v1, l1, t1, e1, o1, l1', HC.out _ o1, Nat.le_trans hb o1.size⟩)
  clear HC HW hb
  rcases wrE_cases n f y with ⟨he, hv⟩ | ⟨he, hv, hc⟩ | ⟨he, hv, k, rfl, hk, h0⟩
  · have HO : Hid (∀ u, row u A n f → Calls Tryz.prog 130 #[.slice A n cap] u fun e w' => e = .returned (.tuple #[.slice none 0 0, .int .i64 (err n f)]) ∧ Below u.heap.size u w') := Lib.hid (fun u hu => Codes_no (cap := cap) hn he (Lib.hid hu))
    have HE := Lib.hid hv
    have HE2 := Lib.hid (show wrE n f y ≠ 0 by rw [hv]; exact he)
    obtain ⟨e, hee⟩ : ∃ e, e = err n f := ⟨_, rfl⟩
    rw [← hee] at HO HE he
    clear hee hv
    go_enter Tryz.func141, Tryz.ntmps141
    go_wp2_with fail
    refine HPut.out.mono ?_
    rintro e w1 ⟨rfl, v1, l1, hw1⟩
    have W1 := Lib.hid hw1
    clear hw1
    go_wp2_with fail
    refine (HO.out _ W1.out.r).mono ?_
    rintro e w2 ⟨rfl, b2⟩
    go_wp2
    go_ret
    exact ⟨ret_i64 HE.out.symm, v1, l1, by rw [wrZ, if_neg HE2.out]; exact wt_below W1.out.t b2, by rw [wrN, if_neg HE2.out]; exact W1.out.e, W1.out.o.trans (Only.of_below b2), W1.out.l⟩
  · have HO : Hid (∀ u, row u A n f → Calls Tryz.prog 130 #[.slice A n cap] u fun e w' => ∃ gc, e = .returned (.tuple #[.slice (some ⟨gc, 0, none⟩) n n, .int .i64 0]) ∧ Below u.heap.size u w') := Lib.hid (fun u hu => (Codes_ok (cap := cap) he (Lib.hid hu)).mono (fun e w' ⟨gc, h1, _, _, h4⟩ => ⟨gc, h1, h4⟩))
    obtain ⟨h1, h2, h3⟩ := err_zero he
    have HR : Hid (∀ u, row u A n f → lens u A (L n f)) := Lib.hid (fun u hu => L_row h2 hu)
    have HE := Lib.hid hv
    have HE2 := Lib.hid (show wrE n f y ≠ 0 by rw [hv]; decide)
    have hln := Lib.hid (L_length n f)
    clear hv he h2 h3
    rcases (show y < 0 ∨ (0 ≤ y ∧ (n : Int) ≤ y) ∨ ∃ k : Nat, y = (k : Int) ∧ k < n ∧ nth (L n f) k = 0 by
      rcases hc with h | h | h
      · exact .inl h
      · exact .inr (.inl ⟨by omega, h⟩)
      · exact .inr (.inr h)) with h | h | ⟨k, rfl, hk, h0⟩
    · clear hc
      go_enter Tryz.func141, Tryz.ntmps141
      go_wp2_with fail
      refine HPut.out.mono ?_
      rintro e w1 ⟨rfl, v1, l1, hw1⟩
      have W1 := Lib.hid hw1
      clear hw1
      go_wp2_with fail
      refine (HO.out _ W1.out.r).mono ?_
      rintro e w2 ⟨gc, rfl, b2⟩
      go_wp2
      go_ret
      exact ⟨ret_i64 HE.out.symm, v1, l1, by rw [wrZ, if_neg HE2.out]; exact wt_below W1.out.t b2, by rw [wrN, if_neg HE2.out]; exact W1.out.e, W1.out.o.trans (Only.of_below b2), W1.out.l⟩
    · clear hc
      obtain ⟨ha, hb'⟩ := h
      have ha' : ¬ y < 0 := by omega
      go_enter Tryz.func141, Tryz.ntmps141
      go_wp2_with fail
      refine HPut.out.mono ?_
      rintro e w1 ⟨rfl, v1, l1, hw1⟩
      have W1 := Lib.hid hw1
      clear hw1
      go_wp2_with fail
      refine (HO.out _ W1.out.r).mono ?_
      rintro e w2 ⟨gc, rfl, b2⟩
      go_wp2
      go_ret
      exact ⟨ret_i64 HE.out.symm, v1, l1, by rw [wrZ, if_neg HE2.out]; exact wt_below W1.out.t b2, by rw [wrN, if_neg HE2.out]; exact W1.out.e, W1.out.o.trans (Only.of_below b2), W1.out.l⟩
    · clear hc
      go_enter Tryz.func141, Tryz.ntmps141
      go_wp2_with fail
      refine HPut.out.mono ?_
      rintro e w1 ⟨rfl, v1, l1, hw1⟩
      have W1 := Lib.hid hw1
      clear hw1
      obtain ⟨b1', off, rfl, hbl, hx⟩ := (HR.out _ W1.out.r).get (k := k) (by rw [hln.out]; exact hk)
      rw [h0] at hx
      have HX := Lib.hid hx
      clear hx h0
      go_wp2_with fail
      refine (HO.out _ W1.out.r).mono ?_
      rintro e w2 ⟨gc, rfl, b2⟩
      have kx := (b2.cell (p := ⟨b1', off + k, none⟩) hbl).trans HX.out
      go_wp2
      go_ret
      exact ⟨ret_i64 HE.out.symm, v1, l1, by rw [wrZ, if_neg HE2.out]; exact wt_below W1.out.t b2, by rw [wrN, if_neg HE2.out]; exact W1.out.e, W1.out.o.trans (Only.of_below b2), W1.out.l⟩
  · have HO : Hid (∀ u, row u A n f → Calls Tryz.prog 130 #[.slice A n cap] u fun e w' => ∃ g, e = .returned (.tuple #[.slice (some ⟨g, 0, none⟩) n n, .int .i64 0]) ∧ Blk w' g 3 (arr n (fun i => (code (L n f) i : Int))) ∧ u.heap.size ≤ g ∧ Below u.heap.size u w') := Lib.hid (fun u hu => Codes_ok (cap := cap) he (Lib.hid hu))
    obtain ⟨h1, h2, h3⟩ := err_zero he
    have HR : Hid (∀ u, row u A n f → lens u A (L n f)) := Lib.hid (fun u hu => L_row h2 hu)
    have hln := Lib.hid (L_length n f)
    have hk15 := L_le h2 k
    have hcl := code_lt (l := L n f) (i := k) (by rw [hln.out]; exact hk) hk15 h3
    have HE := Lib.hid hv
    have HP := Lib.hid (put_code (by omega) hcl)
    have HZ : Hid (wrZ n f k z = putZ z (code (L n f) k : Int) (nth (L n f) k : Int) ∧ wrN n f k (num bs) z = codeN (num bs) z (code (L n f) k : Int) (nth (L n f) k : Int)) := Lib.hid (by
      rw [wrZ, wrN, putZ, codeN, if_pos hv, if_pos hv, if_pos HP.out, if_pos HP.out]
      simp)
    obtain ⟨x, hxx⟩ : ∃ x, x = nth (L n f) k := ⟨_, rfl⟩
    have HXX := Lib.hid hxx
    rw [← hxx] at h0 hk15 HP HZ
    have h0' : ((x : Int) == 0) = false := by simp; omega
    clear hv he h2 h3 hxx hcl
    go_enter Tryz.func141, Tryz.ntmps141
    go_wp2_with fail
    refine HPut.out.mono ?_
    rintro e w1 ⟨rfl, v1, l1, hw1⟩
    have W1 := Lib.hid hw1
    clear hw1
    obtain ⟨b1', off, rfl, hbl, hx⟩ := (HR.out _ W1.out.r).get (k := k) (by rw [hln.out]; exact hk)
    rw [← HXX.out] at hx
    have HX := Lib.hid hx
    clear hx
    go_wp2_with fail
    refine (HO.out _ W1.out.r).mono ?_
    rintro e w2 ⟨gc, rfl, hg, _, b2⟩
    have kx := (b2.cell (p := ⟨b1', off + k, none⟩) hbl).trans HX.out
    have ci := (hg.cell k).trans (arr_get _ hk)
    have W2 := Lib.hid (wt_below W1.out.t b2)
    have B2 := Lib.hid b2
    obtain ⟨C, hC⟩ : ∃ C, C = code (L n f) k := ⟨_, rfl⟩
    rw [← hC] at ci HP HZ
    clear hg b2 hC
    go_wp2_with fail
    go_still_tail 9, (by kernel_rfl)
    go_wp2_with fail
    refine (Code_any base (C : Int) (x : Int) (wt_below W2.out (below_draws _ 1)) (by have := B2.out.size; have := W1.out.b; show base ≤ w2.heap.size; omega) hz).mono ?_
    rintro e w3 ⟨rfl, v3, l3, t3, n3, o3, la3⟩
    rw [HP.out]
    go_wp2
    go_ret
    refine ⟨ret_i64 HE.out.symm, v3, l3, by rw [HZ.out.1]; exact t3, by rw [HZ.out.2, ← W1.out.e]; exact n3, ?_, ?_⟩
    · refine (W1.out.o.trans (Only.of_below (drews_below B2.out 1))).then o3 (fun i hi hlt => ?_)
      rcases hi with hi | hi
      · exact .inl hi
      · rcases own_of (g := g) W1.out.l i hi with h | h
        · exact h
        · omega
    · rcases la3 with la3 | ⟨j, hj, la3⟩
      · rcases W1.out.l with h | ⟨k', hk', h⟩
        · exact .inl (la3.trans h)
        · exact .inr ⟨k', hk', la3.trans h⟩
      · exact .inr ⟨j, Nat.le_trans W1.out.o.size (Nat.le_trans B2.out.size hj), la3⟩
/-- .. a row that lies ahead of the writer. -/
theorem Write_any {A : Option Addr} {n cap : Nat} {f : Nat → Int} {W w : World} {g : Nat} {v : Value} {bs : List UInt8} {z : Nat} (y : Int) (hn : n ≤ 9223372036854775807) (HC : Hid (row W A n f)) (HB : Hid (Below W.heap.size W w)) (hg : W.heap.size ≤ g) (HW : Hid (wt W.heap.size w g v bs z)) (hz : z ≤ 562949953421312) :
    Calls Tryz.prog 141 #[.pointer (some ⟨g, 0, none⟩), .slice A n cap, .int .i64 y] w fun e w' => e = .returned (.int .i64 (wrE n f y))
      ∧ ∃ v' l', wt W.heap.size w' g v' l' (wrZ n f y z) ∧ num l' = wrN n f y (num bs) z ∧ Only (own g v) w w' ∧ later w v v' :=
  Write_gen W.heap.size y hn (Lib.hid (fun _ o => HC.out.below (own_below HW.out hg HB.out HB.out.size o))) HB.out.size HW hz
end Go.Proofs.YtnkninjdpgpkmaaGreatDoor.Pi
