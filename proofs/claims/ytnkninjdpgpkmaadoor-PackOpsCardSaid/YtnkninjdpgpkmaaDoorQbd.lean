/-
  The reference's Read and Write of prefix codes.
  The reference's Write of prefix codes.
  Write, called with a writer that Open made: what it answers, and the bits behind it; of what was there only the writer and its bytes have changed.
  Conditions: as each theorem says.
-/
import Derived.Test.YtnkninjdpgpkmaaDoorQai
import Derived.Test.YtnkninjdpgpkmaaDoorQba
import Derived.Test.YtnkninjdpgpkmaaDoorQbc
import Derived.Test.YtnkninjdpgpkmaaDoorQay
import Derived.Test.YtnkninjdpgpkmaaDoorQaf
import Derived.Deep.QuietTactic
import Derived.BigQuiet
import Derived.StillTailTactics
import Derived.Test.YtnkninjdpgpkmaaDoorQbb
namespace Go.Proofs.YtnkninjdpgpkmaaDoor.Pr
open Go.RowKit Go.Proofs.YtnkninjdpgpkmaaDoor.Vm Go.Proofs.YtnkninjdpgpkmaaDoor.Bm Go.Proofs.YtnkninjdpgpkmaaDoor.Bw Go.Proofs.YtnkninjdpgpkmaaDoor.Bp Go.Proofs.YtnkninjdpgpkmaaDoor.Bq Go.Proofs.YtnkninjdpgpkmaaDoor.Bs Go.Proofs.YtnkninjdpgpkmaaDoor.Na Go.Proofs.YtnkninjdpgpkmaaDoor.Nm Go.Proofs.YtnkninjdpgpkmaaDoor.Nw Go.Proofs.YtnkninjdpgpkmaaDoor.Ni Go.Proofs.YtnkninjdpgpkmaaDoor.Nc Go.Proofs.YtnkninjdpgpkmaaDoor.Nd Go.Proofs.YtnkninjdpgpkmaaDoor.Ne Go.Proofs.YtnkninjdpgpkmaaDoor.Nf Go.Proofs.YtnkninjdpgpkmaaDoor.Ng Go.Proofs.YtnkninjdpgpkmaaDoor.Pm

theorem drews_below {B : Nat} {a b : World} (h : Below B a b) (n : Nat) : Below B a (b.drewN n) := ⟨h.os, h.tape, h.output, h.size, h.block⟩

end Go.Proofs.YtnkninjdpgpkmaaDoor.Pr
namespace Go.Proofs.YtnkninjdpgpkmaaDoor.Pw
open Go.RowKit Go.Proofs.YtnkninjdpgpkmaaDoor.Vm Go.Proofs.YtnkninjdpgpkmaaDoor.Vo Go.Proofs.YtnkninjdpgpkmaaDoor.Bm Go.Proofs.YtnkninjdpgpkmaaDoor.Bt Go.Proofs.YtnkninjdpgpkmaaDoor.Bw Go.Proofs.YtnkninjdpgpkmaaDoor.Bp Go.Proofs.YtnkninjdpgpkmaaDoor.Bq Go.Proofs.YtnkninjdpgpkmaaDoor.Bs Go.Proofs.YtnkninjdpgpkmaaDoor.Bv Go.Proofs.YtnkninjdpgpkmaaDoor.Bx Go.Proofs.YtnkninjdpgpkmaaDoor.Be Go.Proofs.YtnkninjdpgpkmaaDoor.Na Go.Proofs.YtnkninjdpgpkmaaDoor.Nm Go.Proofs.YtnkninjdpgpkmaaDoor.Nw Go.Proofs.YtnkninjdpgpkmaaDoor.Ni Go.Proofs.YtnkninjdpgpkmaaDoor.Nc Go.Proofs.YtnkninjdpgpkmaaDoor.Nd Go.Proofs.YtnkninjdpgpkmaaDoor.Ne Go.Proofs.YtnkninjdpgpkmaaDoor.Nf Go.Proofs.YtnkninjdpgpkmaaDoor.Ng Go.Proofs.YtnkninjdpgpkmaaDoor.Pm Go.Proofs.YtnkninjdpgpkmaaDoor.Pr

/-- What Write answers. -/
def wrE (n : Nat) (f : Nat → Int) (y : Int) : Int := if err n f ≠ 0 then err n f else if y < 0 ∨ (n : Int) ≤ y ∨ nth (L n f) y.toNat = 0 then 1 else 0
/-- How many bits stand behind it, and which. -/
def wrZ (n : Nat) (f : Nat → Int) (y : Int) (z : Nat) : Nat := if wrE n f y = 0 then z + nth (L n f) y.toNat else z
def wrN (n : Nat) (f : Nat → Int) (y : Int) (N z : Nat) : Nat := if wrE n f y = 0 then N + turnN (code (L n f) y.toNat) (nth (L n f) y.toNat) * 2 ^ z else N
theorem wrE_cases (n : Nat) (f : Nat → Int) (y : Int) : (err n f ≠ 0 ∧ wrE n f y = err n f) ∨ (err n f = 0 ∧ wrE n f y = 1 ∧ (y < 0 ∨ (n : Int) ≤ y ∨ ∃ k : Nat, y = (k : Int) ∧ k < n ∧ nth (L n f) k = 0)) ∨ (err n f = 0 ∧ wrE n f y = 0 ∧ ∃ k : Nat, y = (k : Int) ∧ k < n ∧ 0 < nth (L n f) k) := by
  unfold wrE
  by_cases he : err n f = 0
  · rw [if_neg (by omega)]
    by_cases h : y < 0 ∨ (n : Int) ≤ y ∨ nth (L n f) y.toNat = 0
    · refine .inr (.inl ⟨he, if_pos h, ?_⟩)
      rcases (show y < 0 ∨ (n : Int) ≤ y ∨ (0 ≤ y ∧ y < n) by omega) with h1 | h1 | h1
      · exact .inl h1
      · exact .inr (.inl h1)
      · rcases h with h | h | h
        · exact .inl h
        · exact .inr (.inl h)
        · exact .inr (.inr ⟨y.toNat, by omega, by omega, h⟩)
    · have h' : 0 ≤ y ∧ y < n ∧ nth (L n f) y.toNat ≠ 0 := ⟨by omega, by omega, fun e => h (.inr (.inr e))⟩
      exact .inr (.inr ⟨he, if_neg h, y.toNat, by omega, by omega, by omega⟩)
  · exact .inl ⟨he, if_pos he⟩
theorem put_code {c m : Nat} (hm : m ≤ 32) (hc : c < 2 ^ m) : putE (c : Int) (m : Int) = 0 := by
  unfold putE
  rw [if_pos]
  refine ⟨by simp [cnt]; omega, ?_⟩
  have : ((c / 2 ^ m : Nat) : Int) = 0 := by rw [Nat.div_eq_of_lt hc]; rfl
  simpa using this
end Go.Proofs.YtnkninjdpgpkmaaDoor.Pw
namespace Go.Proofs.YtnkninjdpgpkmaaDoor.Pi
open Go.RowKit Go.Proofs.YtnkninjdpgpkmaaDoor.Vm Go.Proofs.YtnkninjdpgpkmaaDoor.Vo Go.Proofs.YtnkninjdpgpkmaaDoor.Bm Go.Proofs.YtnkninjdpgpkmaaDoor.Bt Go.Proofs.YtnkninjdpgpkmaaDoor.Bw Go.Proofs.YtnkninjdpgpkmaaDoor.Bp Go.Proofs.YtnkninjdpgpkmaaDoor.Bs Go.Proofs.YtnkninjdpgpkmaaDoor.Bv Go.Proofs.YtnkninjdpgpkmaaDoor.Bx Go.Proofs.YtnkninjdpgpkmaaDoor.Na Go.Proofs.YtnkninjdpgpkmaaDoor.Nm Go.Proofs.YtnkninjdpgpkmaaDoor.Nw Go.Proofs.YtnkninjdpgpkmaaDoor.Ni Go.Proofs.YtnkninjdpgpkmaaDoor.Nc Go.Proofs.YtnkninjdpgpkmaaDoor.Nd Go.Proofs.YtnkninjdpgpkmaaDoor.Ne Go.Proofs.YtnkninjdpgpkmaaDoor.Nf Go.Proofs.YtnkninjdpgpkmaaDoor.Pm Go.Proofs.YtnkninjdpgpkmaaDoor.Pr Go.Proofs.YtnkninjdpgpkmaaDoor.Pw

theorem wt_below {base : Nat} {w w' : World} {g : Nat} {v : Value} {bs : List UInt8} {z : Nat} (h : wt base w g v bs z) (k : Below w.heap.size w w') : wt base w' g v bs z :=
  ⟨Blk.below h.b k, own_only h.o (Only.of_below (S := fun _ => False) k) (fun _ _ h => h), h.lt, h.len⟩
theorem own_below {base : Nat} {W w w' : World} {g : Nat} {v : Value} {bs : List UInt8} {z : Nat} (h : wt base w g v bs z) (hg : base ≤ g) (hB : Below base W w) (hb : base ≤ w.heap.size) (k : Only (own g v) w w') : Below base W w' :=
  k.below hB hb (fun i hi => by
    rcases hi with hi | hi
    · rw [hi]; exact hg
    · exact (h.o.lt i hi).1)
theorem put_none (base : Nat) {w : World} {g : Nat} {v : Value} {bs : List UInt8} {z : Nat} (h : wt base w g v bs z) (hb : base ≤ w.heap.size) (hz : z ≤ 562949953421312) :
    Calls Tryd.prog 41 #[.pointer (some ⟨g, 0, none⟩), .int .i64 0, .int .i64 0] w fun e w' => e = .returned (.int .i64 0) ∧ ∃ v' l', wt base w' g v' l' z ∧ num l' = num bs ∧ Only (own g v) w w' ∧ later w v v' := by
  have e : putE 0 0 = 0 := by decide
  have e2 : putZ z 0 0 = z := by simp [putZ, e]
  have e3 : putN (num bs) z 0 0 = num bs := by simp [putN, e]
  have := Put_any base 0 0 h hb hz
  rw [e, e2, e3] at this
  exact this

/-- The row behind a call that writes the writer. -/
structure wrote (base : Nat) (W w w1 : World) (A : Option Addr) (n : Nat) (f : Nat → Int) (g : Nat) (v v1 : Value) (bs l1 : List UInt8) (z : Nat) : Prop where
  t : wt base w1 g v1 l1 z
  e : num l1 = num bs
  o : Only (own g v) w w1
  l : later w v v1
  r : row w1 A n f
  b : base ≤ w1.heap.size

set_option maxHeartbeats 1000000 in
set_option maxRecDepth 100000 in
/-- .. the row stays where the writer writes. -/
theorem Write_gen (base : Nat) {A : Option Addr} {n cap : Nat} {f : Nat → Int} {w : World} {g : Nat} {v : Value} {bs : List UInt8} {z : Nat} (y : Int) (hn : n ≤ 9223372036854775807) (HC : Hid (∀ u, Only (own g v) w u → row u A n f)) (hb : base ≤ w.heap.size) (HW : Hid (wt base w g v bs z)) (hz : z ≤ 562949953421312) :
    Calls Tryd.prog 53 #[.pointer (some ⟨g, 0, none⟩), .slice A n cap, .int .i64 y] w fun e w' => e = .returned (.int .i64 (wrE n f y))
      ∧ ∃ v' l', wt base w' g v' l' (wrZ n f y z) ∧ num l' = wrN n f y (num bs) z ∧ Only (own g v) w w' ∧ later w v v' := by
  have HPut : Hid (Calls Tryd.prog 41 #[.pointer (some ⟨g, 0, none⟩), .int .i64 0, .int .i64 0] w fun e w' => e = .returned (.int .i64 0) ∧ ∃ v1 l1, wrote base w w w' A n f g v v1 bs l1 z) := Lib.hid (by
    refine (put_none base HW.out hb hz).mono ?_
    rintro e w' ⟨rfl, v1, l1, t1, e1, o1, l1'⟩
    exact ⟨rfl, v1, l1, t1, e1, o1, l1', HC.out _ o1, Nat.le_trans hb o1.size⟩)
  clear HC HW hb
  rcases wrE_cases n f y with ⟨he, hv⟩ | ⟨he, hv, hc⟩ | ⟨he, hv, k, rfl, hk, h0⟩
  · have HO : Hid (∀ u, row u A n f → Calls Tryd.prog 62 #[.slice A n cap] u fun e w' => e = .returned (.tuple #[.slice none 0 0, .int .i64 (err n f)]) ∧ Below u.heap.size u w') := Lib.hid (fun u hu => Codes_no (cap := cap) hn he (Lib.hid hu))
    have HE := Lib.hid hv
    have HE2 := Lib.hid (show wrE n f y ≠ 0 by rw [hv]; exact he)
    obtain ⟨e, hee⟩ : ∃ e, e = err n f := ⟨_, rfl⟩
    rw [← hee] at HO HE he
    clear hee hv
    go_enter Tryd.func53, Tryd.ntmps53
    go_wp2_with fail
    refine HPut.out.mono ?_
    rintro e w1 ⟨rfl, v1, l1, hw1⟩
    have W1 := Lib.hid hw1
    clear hw1
    go_wp2_with fail
    refine (HO.out _ W1.out.r).mono ?_
    rintro e w2 ⟨rfl, b2⟩
    go_wp2
    go_ret
    exact ⟨ret_i64 HE.out.symm, v1, l1, by rw [wrZ, if_neg HE2.out]; exact wt_below W1.out.t b2, by rw [wrN, if_neg HE2.out]; exact W1.out.e, W1.out.o.trans (Only.of_below b2), W1.out.l⟩
  · have HO : Hid (∀ u, row u A n f → Calls Tryd.prog 62 #[.slice A n cap] u fun e w' => ∃ gc, e = .returned (.tuple #[.slice (some ⟨gc, 0, none⟩) n n, .int .i64 0]) ∧ Below u.heap.size u w') := Lib.hid (fun u hu => (Codes_ok (cap := cap) he (Lib.hid hu)).mono (fun e w' ⟨gc, h1, _, _, h4⟩ => ⟨gc, h1, h4⟩))
    obtain ⟨h1, h2, h3⟩ := err_zero he
    have HR : Hid (∀ u, row u A n f → lens u A (L n f)) := Lib.hid (fun u hu => L_row h2 hu)
    have HE := Lib.hid hv
    have HE2 := Lib.hid (show wrE n f y ≠ 0 by rw [hv]; decide)
    have hln := Lib.hid (L_length n f)
    clear hv he h2 h3
    rcases (show y < 0 ∨ (0 ≤ y ∧ (n : Int) ≤ y) ∨ ∃ k : Nat, y = (k : Int) ∧ k < n ∧ nth (L n f) k = 0 by
      rcases hc with h | h | h
      · exact .inl h
      · exact .inr (.inl ⟨by omega, h⟩)
      · exact .inr (.inr h)) with h | h | ⟨k, rfl, hk, h0⟩
    · clear hc
      go_enter Tryd.func53, Tryd.ntmps53
      go_wp2_with fail
      refine HPut.out.mono ?_
      rintro e w1 ⟨rfl, v1, l1, hw1⟩
      have W1 := Lib.hid hw1
      clear hw1
      go_wp2_with fail
      refine (HO.out _ W1.out.r).mono ?_
      rintro e w2 ⟨gc, rfl, b2⟩
      go_wp2
      go_ret
      exact ⟨ret_i64 HE.out.symm, v1, l1, by rw [wrZ, if_neg HE2.out]; exact wt_below W1.out.t b2, by rw [wrN, if_neg HE2.out]; exact W1.out.e, W1.out.o.trans (Only.of_below b2), W1.out.l⟩
    · clear hc
      obtain ⟨ha, hb'⟩ := h
      have ha' : ¬ y < 0 := by omega
      go_enter Tryd.func53, Tryd.ntmps53
      go_wp2_with fail
      refine HPut.out.mono ?_
      rintro e w1 ⟨rfl, v1, l1, hw1⟩
      have W1 := Lib.hid hw1
      clear hw1
      go_wp2_with fail
      refine (HO.out _ W1.out.r).mono ?_
      rintro e w2 ⟨gc, rfl, b2⟩
      go_wp2
      go_ret
      exact ⟨ret_i64 HE.out.symm, v1, l1, by rw [wrZ, if_neg HE2.out]; exact wt_below W1.out.t b2, by rw [wrN, if_neg HE2.out]; exact W1.out.e, W1.out.o.trans (Only.of_below b2), W1.out.l⟩
    · clear hc
      go_enter Tryd.func53, Tryd.ntmps53
      go_wp2_with fail
      refine HPut.out.mono ?_
      rintro e w1 ⟨rfl, v1, l1, hw1⟩
      have W1 := Lib.hid hw1
      clear hw1
      obtain ⟨b1', off, rfl, hbl, hx⟩ := (HR.out _ W1.out.r).get (k := k) (by rw [hln.out]; exact hk)
      rw [h0] at hx
      have HX := Lib.hid hx
      clear hx h0
      go_wp2_with fail
      refine (HO.out _ W1.out.r).mono ?_
      rintro e w2 ⟨gc, rfl, b2⟩
      have kx := (b2.cell (p := ⟨b1', off + k, none⟩) hbl).trans HX.out
      go_wp2
      go_ret
      exact ⟨ret_i64 HE.out.symm, v1, l1, by rw [wrZ, if_neg HE2.out]; exact wt_below W1.out.t b2, by rw [wrN, if_neg HE2.out]; exact W1.out.e, W1.out.o.trans (Only.of_below b2), W1.out.l⟩
  · have HO : Hid (∀ u, row u A n f → Calls Tryd.prog 62 #[.slice A n cap] u fun e w' => ∃ g, e = .returned (.tuple #[.slice (some ⟨g, 0, none⟩) n n, .int .i64 0]) ∧ Blk w' g 3 (arr n (fun i => (code (L n f) i : Int))) ∧ u.heap.size ≤ g ∧ Below u.heap.size u w') := Lib.hid (fun u hu => Codes_ok (cap := cap) he (Lib.hid hu))
    obtain ⟨h1, h2, h3⟩ := err_zero he
    have HR : Hid (∀ u, row u A n f → lens u A (L n f)) := Lib.hid (fun u hu => L_row h2 hu)
    have hln := Lib.hid (L_length n f)
    have hk15 := L_le h2 k
    have hcl := code_lt (l := L n f) (i := k) (by rw [hln.out]; exact hk) hk15 h3
    have HE := Lib.hid hv
    have HP := Lib.hid (put_code (by omega) hcl)
    have HZ : Hid (wrZ n f k z = putZ z (code (L n f) k : Int) (nth (L n f) k : Int) ∧ wrN n f k (num bs) z = codeN (num bs) z (code (L n f) k : Int) (nth (L n f) k : Int)) := Lib.hid (by
      rw [wrZ, wrN, putZ, codeN, if_pos hv, if_pos hv, if_pos HP.out, if_pos HP.out]
      simp)
    obtain ⟨x, hxx⟩ : ∃ x, x = nth (L n f) k := ⟨_, rfl⟩
    have HXX := Lib.hid hxx
    rw [← hxx] at h0 hk15 HP HZ
    have h0' : ((x : Int) == 0) = false := by simp; omega
    clear hv he h2 h3 hxx hcl
    go_enter Tryd.func53, Tryd.ntmps53
    go_wp2_with fail
    refine HPut.out.mono ?_
    rintro e w1 ⟨rfl, v1, l1, hw1⟩
    have W1 := Lib.hid hw1
    clear hw1
    obtain ⟨b1', off, rfl, hbl, hx⟩ := (HR.out _ W1.out.r).get (k := k) (by rw [hln.out]; exact hk)
    rw [← HXX.out] at hx
    have HX := Lib.hid hx
    clear hx
    go_wp2_with fail
    refine (HO.out _ W1.out.r).mono ?_
    rintro e w2 ⟨gc, rfl, hg, _, b2⟩
    have kx := (b2.cell (p := ⟨b1', off + k, none⟩) hbl).trans HX.out
    have ci := (hg.cell k).trans (arr_get _ hk)
    have W2 := Lib.hid (wt_below W1.out.t b2)
    have B2 := Lib.hid b2
    obtain ⟨C, hC⟩ : ∃ C, C = code (L n f) k := ⟨_, rfl⟩
    rw [← hC] at ci HP HZ
    clear hg b2 hC
    go_wp2_with fail
    go_still_tail 9, (by kernel_rfl)
    go_wp2_with fail
    refine (Code_any base (C : Int) (x : Int) (wt_below W2.out (below_draws _ 1)) (by have := B2.out.size; have := W1.out.b; show base ≤ w2.heap.size; omega) hz).mono ?_
    rintro e w3 ⟨rfl, v3, l3, t3, n3, o3, la3⟩
    rw [HP.out]
    go_wp2
    go_ret
    refine ⟨ret_i64 HE.out.symm, v3, l3, by rw [HZ.out.1]; exact t3, by rw [HZ.out.2, ← W1.out.e]; exact n3, ?_, ?_⟩
    · refine (W1.out.o.trans (Only.of_below (drews_below B2.out 1))).then o3 (fun i hi hlt => ?_)
      rcases hi with hi | hi
      · exact .inl hi
      · rcases own_of (g := g) W1.out.l i hi with h | h
        · exact h
        · omega
    · rcases la3 with la3 | ⟨j, hj, la3⟩
      · rcases W1.out.l with h | ⟨k', hk', h⟩
        · exact .inl (la3.trans h)
        · exact .inr ⟨k', hk', la3.trans h⟩
      · exact .inr ⟨j, Nat.le_trans W1.out.o.size (Nat.le_trans B2.out.size hj), la3⟩
/-- .. a row that lies ahead of the writer. -/
theorem Write_any {A : Option Addr} {n cap : Nat} {f : Nat → Int} {W w : World} {g : Nat} {v : Value} {bs : List UInt8} {z : Nat} (y : Int) (hn : n ≤ 9223372036854775807) (HC : Hid (row W A n f)) (HB : Hid (Below W.heap.size W w)) (hg : W.heap.size ≤ g) (HW : Hid (wt W.heap.size w g v bs z)) (hz : z ≤ 562949953421312) :
    Calls Tryd.prog 53 #[.pointer (some ⟨g, 0, none⟩), .slice A n cap, .int .i64 y] w fun e w' => e = .returned (.int .i64 (wrE n f y))
      ∧ ∃ v' l', wt W.heap.size w' g v' l' (wrZ n f y z) ∧ num l' = wrN n f y (num bs) z ∧ Only (own g v) w w' ∧ later w v v' :=
  Write_gen W.heap.size y hn (Lib.hid (fun _ o => HC.out.below (own_below HW.out hg HB.out HB.out.size o))) HB.out.size HW hz
end Go.Proofs.YtnkninjdpgpkmaaDoor.Pi
