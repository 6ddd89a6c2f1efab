/-
  The reference's Write of prefix codes.
  Conditions: none but the row and the writer.
-/
import Derived.Test.YtiakknbgoahgiaaPr
import Derived.StillTailTactics
namespace Go.Proofs.Ytiakknbgoahgiaa.Pw
open Go.RowKit Go.Proofs.Ytiakknbgoahgiaa.Vm Go.Proofs.Ytiakknbgoahgiaa.Vo Go.Proofs.Ytiakknbgoahgiaa.Bm Go.Proofs.Ytiakknbgoahgiaa.Bt Go.Proofs.Ytiakknbgoahgiaa.Bw Go.Proofs.Ytiakknbgoahgiaa.Bp Go.Proofs.Ytiakknbgoahgiaa.Bq Go.Proofs.Ytiakknbgoahgiaa.Bs Go.Proofs.Ytiakknbgoahgiaa.Bv Go.Proofs.Ytiakknbgoahgiaa.Bx Go.Proofs.Ytiakknbgoahgiaa.Be Go.Proofs.Ytiakknbgoahgiaa.Na Go.Proofs.Ytiakknbgoahgiaa.Nm Go.Proofs.Ytiakknbgoahgiaa.Nw Go.Proofs.Ytiakknbgoahgiaa.Ni Go.Proofs.Ytiakknbgoahgiaa.Nc Go.Proofs.Ytiakknbgoahgiaa.Nd Go.Proofs.Ytiakknbgoahgiaa.Ne Go.Proofs.Ytiakknbgoahgiaa.Nf Go.Proofs.Ytiakknbgoahgiaa.Ng Go.Proofs.Ytiakknbgoahgiaa.Pm Go.Proofs.Ytiakknbgoahgiaa.Pr

/-- What Write answers. -/
def wrE (n : Nat) (f : Nat → Int) (y : Int) : Int := if err n f ≠ 0 then err n f else if y < 0 ∨ (n : Int) ≤ y ∨ nth (L n f) y.toNat = 0 then 1 else 0
/-- How many bits stand behind it, and which. -/
def wrZ (n : Nat) (f : Nat → Int) (y : Int) (z : Nat) : Nat := if wrE n f y = 0 then z + nth (L n f) y.toNat else z
def wrN (n : Nat) (f : Nat → Int) (y : Int) (N z : Nat) : Nat := if wrE n f y = 0 then N + turnN (code (L n f) y.toNat) (nth (L n f) y.toNat) * 2 ^ z else N
theorem wrE_cases (n : Nat) (f : Nat → Int) (y : Int) : (err n f ≠ 0 ∧ wrE n f y = err n f) ∨ (err n f = 0 ∧ wrE n f y = 1 ∧ (y < 0 ∨ (n : Int) ≤ y ∨ ∃ k : Nat, y = (k : Int) ∧ k < n ∧ nth (L n f) k = 0)) ∨ (err n f = 0 ∧ wrE n f y = 0 ∧ ∃ k : Nat, y = (k : Int) ∧ k < n ∧ 0 < nth (L n f) k) := by
  unfold wrE
  by_cases he : err n f = 0
  · rw [if_neg (by omega)]
    by_cases h : y < 0 ∨ (n : Int) ≤ y ∨ nth (L n f) y.toNat = 0
    · refine .inr (.inl ⟨he, if_pos h, ?_⟩)
      rcases (show y < 0 ∨ (n : Int) ≤ y ∨ (0 ≤ y ∧ y < n) by omega) with h1 | h1 | h1
      · exact .inl h1
      · exact .inr (.inl h1)
      · rcases h with h | h | h
        · exact .inl h
        · exact .inr (.inl h)
        · exact .inr (.inr ⟨y.toNat, by omega, by omega, h⟩)
    · have h' : 0 ≤ y ∧ y < n ∧ nth (L n f) y.toNat ≠ 0 := ⟨by omega, by omega, fun e => h (.inr (.inr e))⟩
      exact .inr (.inr ⟨he, if_neg h, y.toNat, by omega, by omega, by omega⟩)
  · exact .inl ⟨he, if_pos he⟩
theorem put_code {c m : Nat} (hm : m ≤ 32) (hc : c < 2 ^ m) : putE (c : Int) (m : Int) = 0 := by
  unfold putE
  rw [if_pos]
  refine ⟨by simp [cnt]; omega, ?_⟩
  have : ((c / 2 ^ m : Nat) : Int) = 0 := by rw [Nat.div_eq_of_lt hc]; rfl
  simpa using this
theorem rw_below {base : Nat} {w w' : World} {g : Nat} {v : Value} {bs : List UInt8} (h : rw' base w g v bs) (k : Below w.heap.size w w') : rw' base w' g v bs :=
  ⟨Blk.below h.b k, own_only h.o (Only.of_below (S := fun _ => False) k) (fun _ _ h => h), h.ok⟩

set_option maxHeartbeats 1000000 in
set_option maxRecDepth 100000 in
theorem rWrite_any (base : Nat) {A : Option Addr} {n cap : Nat} {f : Nat → Int} {w : World} {g : Nat} {v : Value} {bs : List UInt8} (y : Int) (hn : n ≤ 9223372036854775807) (HC : Hid (row w A n f)) (HW : Hid (rw' base w g v bs)) (hb : base ≤ w.heap.size) (hz : bs.length ≤ 70368744177664) :
    Calls Try.prog 19 #[.pointer (some ⟨g, 0, none⟩), .slice A n cap, .int .i64 y] w fun e w' => e = .returned (.int .i64 (wrE n f y))
      ∧ ∃ v' bs', rw' base w' g v' bs' ∧ bs'.length = wrZ n f y bs.length ∧ bitN bs' = wrN n f y (bitN bs) bs.length ∧ Only (own g v) w w' ∧ later w v v' := by
  rcases wrE_cases n f y with ⟨he, hv⟩ | ⟨he, hv, hc⟩ | ⟨he, hv, k, rfl, hk, h0⟩
  · have HO := Lib.hid (rCodes_no (cap := cap) hn he HC)
    have HE := Lib.hid hv
    have HE2 := Lib.hid (show wrE n f y ≠ 0 by rw [hv]; exact he)
    obtain ⟨e, hee⟩ : ∃ e, e = err n f := ⟨_, rfl⟩
    rw [← hee] at HO HE he
    clear hee hv HC
    go_enter Try.func19, Try.ntmps19
    go_wp2_with fail
    refine HO.out.mono ?_
    rintro e w1 ⟨rfl, b1⟩
    go_wp2
    go_ret
    exact ⟨ret_i64 HE.out.symm, v, bs, rw_below HW.out b1, by rw [wrZ, if_neg HE2.out], by rw [wrN, if_neg HE2.out], Only.of_below b1, .inl rfl⟩
  · have HO := Lib.hid (rCodes_ok (cap := cap) he HC)
    obtain ⟨h1, h2, h3⟩ := err_zero he
    have HR := Lib.hid (L_row h2 HC.out)
    have HE := Lib.hid hv
    have HE2 := Lib.hid (show wrE n f y ≠ 0 by rw [hv]; decide)
    have hln := Lib.hid (L_length n f)
    clear hv he h2 h3 HC
    rcases (show y < 0 ∨ (0 ≤ y ∧ (n : Int) ≤ y) ∨ ∃ k : Nat, y = (k : Int) ∧ k < n ∧ nth (L n f) k = 0 by
      rcases hc with h | h | h
      · exact .inl h
      · exact .inr (.inl ⟨by omega, h⟩)
      · exact .inr (.inr h)) with h | h | ⟨k, rfl, hk, h0⟩
    · clear hc
      go_enter Try.func19, Try.ntmps19
      go_wp2_with fail
      refine HO.out.mono ?_
      rintro e w1 ⟨gc, rfl, _, _, b1⟩
      go_wp2
      go_ret
      exact ⟨ret_i64 HE.out.symm, v, bs, rw_below HW.out b1, by rw [wrZ, if_neg HE2.out], by rw [wrN, if_neg HE2.out], Only.of_below b1, .inl rfl⟩
    · clear hc
      obtain ⟨ha, hb'⟩ := h
      have ha' : ¬ y < 0 := by omega
      go_enter Try.func19, Try.ntmps19
      go_wp2_with fail
      refine HO.out.mono ?_
      rintro e w1 ⟨gc, rfl, _, _, b1⟩
      go_wp2
      go_ret
      exact ⟨ret_i64 HE.out.symm, v, bs, rw_below HW.out b1, by rw [wrZ, if_neg HE2.out], by rw [wrN, if_neg HE2.out], Only.of_below b1, .inl rfl⟩
    · clear hc
      obtain ⟨b1', off, rfl, hbl, hx⟩ := HR.out.get (k := k) (by rw [hln.out]; exact hk)
      rw [h0] at hx
      have HX := Lib.hid hx
      clear hx h0
      go_enter Try.func19, Try.ntmps19
      go_wp2_with fail
      refine HO.out.mono ?_
      rintro e w1 ⟨gc, rfl, _, _, b1⟩
      have kx := (b1.cell (p := ⟨b1', off + k, none⟩) hbl).trans HX.out
      go_wp2
      go_ret
      exact ⟨ret_i64 HE.out.symm, v, bs, rw_below HW.out b1, by rw [wrZ, if_neg HE2.out], by rw [wrN, if_neg HE2.out], Only.of_below b1, .inl rfl⟩
  · have HO := Lib.hid (rCodes_ok (cap := cap) he HC)
    obtain ⟨h1, h2, h3⟩ := err_zero he
    have HR := Lib.hid (L_row h2 HC.out)
    have hln := Lib.hid (L_length n f)
    have hk15 := L_le h2 k
    obtain ⟨b1', off, rfl, hbl, hx⟩ := HR.out.get (k := k) (by rw [hln.out]; exact hk)
    have hcl := code_lt (l := L n f) (i := k) (by rw [hln.out]; exact hk) hk15 h3
    have HE := Lib.hid hv
    have HP := Lib.hid (put_code (by omega) hcl)
    have HZ : Hid (wrZ n f k bs.length = putZ bs.length (code (L n f) k : Int) (nth (L n f) k : Int) ∧ wrN n f k (bitN bs) bs.length = codeN (bitN bs) bs.length (code (L n f) k : Int) (nth (L n f) k : Int)) := Lib.hid (by
      rw [wrZ, wrN, putZ, codeN, if_pos hv, if_pos hv, if_pos HP.out, if_pos HP.out]
      simp)
    have HX := Lib.hid hx
    obtain ⟨x, hxx⟩ : ∃ x, x = nth (L n f) k := ⟨_, rfl⟩
    have HXX := Lib.hid hxx
    rw [← hxx] at HX h0 hk15 HP HZ
    have h0' : ((x : Int) == 0) = false := by simp; omega
    clear hv he h2 h3 HC hx hxx hcl
    go_enter Try.func19, Try.ntmps19
    go_wp2_with fail
    refine HO.out.mono ?_
    rintro e w1 ⟨gc, rfl, hg, _, b1⟩
    have kx := (b1.cell (p := ⟨b1', off + k, none⟩) hbl).trans HX.out
    have ci := (hg.cell k).trans (arr_get _ hk)
    have W1 := Lib.hid (rw_below HW.out b1)
    have B1 := Lib.hid b1
    obtain ⟨C, hC⟩ : ∃ C, C = code (L n f) k := ⟨_, rfl⟩
    rw [← hC] at ci HP HZ
    clear hg b1 hC
    go_wp2_with fail
    go_still_tail 9, (by kernel_rfl)
    go_wp2_with fail
    refine (rCode_any base (C : Int) (x : Int) (rw_below W1.out (below_draws _ 1)) (by have := B1.out.size; show base ≤ w1.heap.size; omega) hz).mono ?_
    rintro e w2 ⟨rfl, v', bs', r2, z2, n2, o2, l2⟩
    rw [HP.out]
    go_wp2
    go_ret
    refine ⟨ret_i64 HE.out.symm, v', bs', r2, by rw [HZ.out.1]; exact z2, by rw [HZ.out.2]; exact n2, ?_, ?_⟩
    · exact (Only.of_below (drews_below B1.out 1)).then o2 (fun i hi _ => hi)
    · rcases l2 with l2 | ⟨j, hj, l2⟩
      · exact .inl l2
      · exact .inr ⟨j, Nat.le_trans B1.out.size hj, l2⟩
end Go.Proofs.Ytiakknbgoahgiaa.Pw
