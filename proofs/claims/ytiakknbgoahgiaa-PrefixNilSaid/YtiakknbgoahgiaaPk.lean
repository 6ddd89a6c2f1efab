/-
  What must come of fixed calls of prefix: known() answers true; nothing that was there has changed.
  Conditions: none.
-/
import Derived.Test.YtiakknbgoahgiaaPh
import Derived.Test.YtiakknbgoahgiaaPi
namespace Go.Proofs.Ytiakknbgoahgiaa.Pk
open Go.RowKit Go.Proofs.Ytiakknbgoahgiaa.Vm Go.Proofs.Ytiakknbgoahgiaa.Vo Go.Proofs.Ytiakknbgoahgiaa.Bm Go.Proofs.Ytiakknbgoahgiaa.Bt Go.Proofs.Ytiakknbgoahgiaa.Bw Go.Proofs.Ytiakknbgoahgiaa.Br Go.Proofs.Ytiakknbgoahgiaa.Bp Go.Proofs.Ytiakknbgoahgiaa.Bs Go.Proofs.Ytiakknbgoahgiaa.Bv Go.Proofs.Ytiakknbgoahgiaa.Bx Go.Proofs.Ytiakknbgoahgiaa.Na Go.Proofs.Ytiakknbgoahgiaa.Nm Go.Proofs.Ytiakknbgoahgiaa.Nw Go.Proofs.Ytiakknbgoahgiaa.Ni Go.Proofs.Ytiakknbgoahgiaa.Nc Go.Proofs.Ytiakknbgoahgiaa.Nd Go.Proofs.Ytiakknbgoahgiaa.Ne Go.Proofs.Ytiakknbgoahgiaa.Nf Go.Proofs.Ytiakknbgoahgiaa.Pm Go.Proofs.Ytiakknbgoahgiaa.Pg Go.Proofs.Ytiakknbgoahgiaa.Ph Go.Proofs.Ytiakknbgoahgiaa.Pi Go.Proofs.Ytiakknbgoahgiaa.Pw

/-- A list as a row. -/
def of (l : List Int) (i : Nat) : Int := l.getD i 0
theorem row_of {w : World} {g n : Nat} {cs : Array Value} (l : List Int) (h : Blk w g 3 cs) (hn : n = l.length) (e : cs = (l.map (Value.int .i64)).toArray) : Hid (row w (some ⟨g, 0, none⟩) n (of l)) := Lib.hid (fun i hi => by
  refine ⟨g, 0, rfl, h.lt, ?_⟩
  rw [Nat.zero_add, h.cell, e, of]
  simp [List.getD_eq_getElem?_getD, List.getElem?_eq_getElem (show i < l.length by omega)])
def f4 : Nat → Int := of [2, 1, 3, 3]
def l4 : List Nat := [2, 1, 3, 3]
theorem l4_eq : L 4 f4 = l4 := by decide +kernel
theorem err4 : err 4 f4 = 0 := by decide +kernel
theorem l4_15 : ∀ i, nth l4 i ≤ 15 := by rw [← l4_eq]; exact L_le (err_zero err4).2.1
theorem l4_k : ksum l4 16 ≤ 32768 := by decide +kernel
theorem err3 : err 3 (of [1, 1, 1]) = 7 := by decide +kernel

theorem kNew (u : World) : Calls Try.prog 8 #[.slice (some ⟨u.heap.size, 0, none⟩) 4 4] (u.alloc (.cells #[.int .i64 2, .int .i64 1, .int .i64 3, .int .i64 3] 3))
    fun e w' => ∃ g, e = .returned (.tuple #[.pointer (some ⟨g, 0, none⟩), .int .i64 0]) ∧ tabl w' g 4 l4 ∧ row w' (some ⟨u.heap.size, 0, none⟩) 4 f4 ∧ Below u.heap.size u w' := by
  have hr : Hid (row _ (some ⟨u.heap.size, 0, none⟩) 4 f4) := row_of [2, 1, 3, 3] (Blk.fresh u 3 #[.int .i64 2, .int .i64 1, .int .i64 3, .int .i64 3]) rfl rfl
  refine (New_ok (cap := 4) err4 hr).mono ?_
  rintro e w' ⟨g, rfl, ht, _, hb⟩
  rw [l4_eq] at ht
  exact ⟨g, rfl, ht, hr.out.below hb, grows (below_alloc _ _) hb⟩
theorem kOver (u : World) : Calls Try.prog 8 #[.slice (some ⟨u.heap.size, 0, none⟩) 3 3] (u.alloc (.cells #[.int .i64 1, .int .i64 1, .int .i64 1] 3))
    fun e w' => e = .returned (.tuple #[.pointer none, .int .i64 7]) ∧ Below u.heap.size u w' := by
  have h := New_no (n := 3) (cap := 3) (f := of [1, 1, 1]) (by omega) (by rw [err3]; omega) (row_of [1, 1, 1] (Blk.fresh u 3 #[.int .i64 1, .int .i64 1, .int .i64 1]) rfl rfl)
  rw [err3] at h
  refine h.mono ?_
  rintro e w' ⟨rfl, hb⟩
  exact ⟨rfl, grows (below_alloc _ _) hb⟩

/-- A writer that Open made in W, with z bits that are N. -/
def st (W w : World) (g z N : Nat) : Prop := (∃ v l, wt W.heap.size w g v l z ∧ num l = N) ∧ Below W.heap.size W w
theorem kOpen (u : World) : Calls Try.prog 17 #[] u fun e w' => ∃ g, e = .returned (.pointer (some ⟨g, 0, none⟩)) ∧ st u w' g 0 0 ∧ u.heap.size ≤ g := by
  refine (Open_any u).mono ?_
  rintro e w' ⟨g, rfl, ht, rfl, hb⟩
  exact ⟨_, rfl, ⟨⟨_, _, ht, rfl⟩, hb⟩, Nat.le_refl _⟩
theorem kWrite {W w : World} {A : Option Addr} {n cap : Nat} {f : Nat → Int} {g z N : Nat} (y : Int) (hn : n ≤ 9223372036854775807) (hr : row W A n f) (h : st W w g z N) (hg : W.heap.size ≤ g) (hz : z ≤ 562949953421312) :
    Calls Try.prog 18 #[.pointer (some ⟨g, 0, none⟩), .slice A n cap, .int .i64 y] w fun e w' => e = .returned (.int .i64 (wrE n f y)) ∧ st W w' g (wrZ n f y z) (wrN n f y N z) := by
  obtain ⟨⟨v, l, ht, rfl⟩, hb⟩ := h
  refine (Write_any y hn (Lib.hid hr) (Lib.hid hb) hg (Lib.hid ht) hz).mono ?_
  rintro e w' ⟨rfl, v', l', t', n', o', _⟩
  exact ⟨rfl, ⟨v', l', t', n'⟩, own_below ht hg hb hb.size o'⟩
theorem kW4 {W w : World} {b g z N : Nat} (k z' N' : Nat) (hr : row W (some ⟨b, 0, none⟩) 4 f4) (h : st W w g z N) (hg : W.heap.size ≤ g) (hz : z ≤ 100) (h1 : wrE 4 f4 k = 0) (h2 : wrZ 4 f4 k z = z') (h3 : wrN 4 f4 k N z = N') :
    Calls Try.prog 18 #[.pointer (some ⟨g, 0, none⟩), .slice (some ⟨b, 0, none⟩) 4 4, .int .i64 k] w fun e w' => e = .returned (.int .i64 0) ∧ st W w' g z' N' := by
  have := kWrite (cap := 4) (k : Int) (by omega) hr h hg (by omega)
  rw [h1, h2, h3] at this
  exact this
theorem kText {W w : World} {g z N : Nat} (h : st W w g z N) : Calls Try.prog 21 #[.pointer (some ⟨g, 0, none⟩)] w fun e w' => ∃ s : ByteArray, e = .returned (.string s) ∧ num s.data.toList = N ∧ s.size = (z + 7) / 8 ∧ w = w' := by
  obtain ⟨⟨v, l, ht, rfl⟩, _⟩ := h
  refine (Text_any ht).mono ?_
  rintro e w' ⟨rfl, rfl⟩
  exact ⟨_, rfl, rfl, ht.len, rfl⟩
theorem kLen {W w : World} {g z N : Nat} (h : st W w g z N) : Calls Try.prog 20 #[.pointer (some ⟨g, 0, none⟩)] w fun e w' => e = .returned (.int .i64 z) ∧ w = w' := by
  obtain ⟨⟨v, l, ht, rfl⟩, _⟩ := h
  exact Len_any ht.b
theorem kRead {w : World} {g r : Nat} {s : ByteArray} (a i : Nat) (ht : tabl w g 4 l4) (hr : rd w r s a) (hs : s.size = 1) (hN : num s.data.toList = 58) (ha : a ≤ 8) (hi' : i < 4) (hre : reads l4 58 a i) (hl : nth l4 i ≤ 8 - a) :
    Calls Try.prog 14 #[.pointer (some ⟨g, 0, none⟩), .pointer (some ⟨r, 0, none⟩)] w fun e w' => e = .returned (.tuple #[.int .i64 i, .int .i64 0]) ∧ rd w' r s (a + nth l4 i) ∧ tabl w' g 4 l4 ∧ Only (At r) w w' := by
  have h := Read_any l4_15 l4_k (by decide) (by decide) ht hr (by omega) (by omega)
  have hg := got_some l4_15 (show i < l4.length from hi') hre hl
  rw [hs, hN, show 8 * 1 - a = 8 - a by omega] at h
  have e1 : gotS l4 58 a (8 - a) = (i : Int) := by simp [gotS, hg]
  have e2 : gotE l4 58 a (8 - a) = 0 := by simp [gotE, hg]
  have e3 : gotA l4 58 a (8 - a) = a + nth l4 i := by simp [gotA, hg]
  rw [e1, e2, e3] at h
  exact h
theorem r1 : reads l4 58 0 1 := by unfold reads hit; decide +kernel
theorem r0 : reads l4 58 1 0 := by unfold reads hit; decide +kernel
theorem r3 : reads l4 58 3 3 := by unfold reads hit; decide +kernel

theorem st.below {W w w' : World} {g z N : Nat} (h : st W w g z N) (k : Below w.heap.size w w') : st W w' g z N := by
  obtain ⟨⟨v, l, ht, e⟩, hb⟩ := h
  exact ⟨⟨v, l, wt_below ht k, e⟩, hb.trans (k.mono hb.size)⟩
theorem st.apart {W w w' : World} {g z N r : Nat} {t : TypeId} {cs : Array Value} (h : st W w g z N) (hr : Blk w r t cs) (h1 : t ≠ 74) (h2 : t ≠ 5) (hw : W.heap.size ≤ r) (k : Only (At r) w w') : st W w' g z N := by
  obtain ⟨⟨v, l, ht, e⟩, hb⟩ := h
  refine ⟨⟨v, l, ⟨Blk.only ht.b k (fun e => Blk.apart hr ht.b h1 e.symm), own_only ht.o k (fun i hi e => own_apart ht.o hr (fun e => h2 e.symm) i hi e), ht.lt, ht.len⟩, e⟩, k.below hb hb.size (fun i hi => ?_)⟩
  have e' : i = r := hi
  omega

set_option maxHeartbeats 1000000 in
set_option maxRecDepth 100000 in
theorem known_any (w : World) :
    Calls Try.prog 7 #[] w fun e w' => e = .returned (.bool true) ∧ Below w.heap.size w w' := by
  go_enter Try.func7, Try.ntmps7
  go_wp2_with fail
  refine (kNew w).mono ?_
  rintro e w1 ⟨g, rfl, t1, row1, b1⟩
  have T1 := Lib.hid t1
  have R1 := Lib.hid row1
  have B1 := Lib.hid b1
  clear t1 row1 b1
  go_wp2_with fail
  refine (kOpen w1).mono ?_
  rintro e w2 ⟨gw, rfl, s2, hgw⟩
  have S2 := Lib.hid s2
  clear s2
  go_wp2_with fail
  refine (kW4 1 1 0 R1.out S2.out hgw (by omega) (by decide +kernel) (by decide +kernel) (by decide +kernel)).mono ?_
  rintro e w3 ⟨rfl, s3⟩
  have S3 := Lib.hid s3
  clear s3 S2
  go_wp2_with fail
  refine (kW4 0 3 2 R1.out S3.out hgw (by omega) (by decide +kernel) (by decide +kernel) (by decide +kernel)).mono ?_
  rintro e w4 ⟨rfl, s4⟩
  have S4 := Lib.hid s4
  clear s4 S3
  go_wp2_with fail
  refine (kW4 3 6 58 R1.out S4.out hgw (by omega) (by decide +kernel) (by decide +kernel) (by decide +kernel)).mono ?_
  rintro e w5 ⟨rfl, s5⟩
  have S5 := Lib.hid s5
  clear s5 S4
  go_wp2_with fail
  refine (kText S5.out).mono ?_
  rintro e w' ⟨s, rfl, hN, hs, rfl⟩
  have HN := Lib.hid hN
  have HS : Hid (s.size = 1) := Lib.hid hs
  clear hN hs
  go_wp2_with fail
  refine (New_ok s 0 _ (by rw [HS.out]; omega) (by omega)).mono ?_
  rintro e w6 ⟨r, rfl, r6, hr6, b6⟩
  have R6 := Lib.hid r6
  have S6 := Lib.hid (st.below S5.out b6)
  have T6 := Lib.hid (tabl.below T1.out S6.out.2)
  have hrw : w1.heap.size ≤ r := by have := S5.out.2.size; omega
  clear r6 b6 hr6 S5
  go_wp2_with fail
  refine (kRead 0 1 T6.out R6.out HS.out HN.out (by omega) (by omega) r1 (by decide)).mono ?_
  rintro e w7 ⟨rfl, r7, t7, o7⟩
  have S7 := Lib.hid (st.apart S6.out R6.out (by decide) (by decide) hrw o7)
  have R7 := Lib.hid r7
  have T7 := Lib.hid t7
  clear r7 t7 o7 R6 S6 T6
  go_wp2_with fail
  refine (kRead 1 0 T7.out R7.out HS.out HN.out (by omega) (by omega) r0 (by decide)).mono ?_
  rintro e w8 ⟨rfl, r8, t8, o8⟩
  have S8 := Lib.hid (st.apart S7.out R7.out (by decide) (by decide) hrw o8)
  have R8 := Lib.hid r8
  have T8 := Lib.hid t8
  clear r8 t8 o8 R7 S7 T7
  go_wp2_with fail
  refine (kRead 3 3 T8.out R8.out HS.out HN.out (by omega) (by omega) r3 (by decide)).mono ?_
  rintro e w9 ⟨rfl, r9, t9, o9⟩
  have S9 := Lib.hid (st.apart S8.out R8.out (by decide) (by decide) hrw o9)
  have T9 := Lib.hid t9
  clear r9 t9 o9 R8 S8 T8
  go_wp2_with fail
  refine (kOver w9).mono ?_
  rintro e wa ⟨rfl, ba⟩
  have Sa := Lib.hid (st.below S9.out ba)
  have Ta := Lib.hid (tabl.below T9.out ba)
  clear ba S9 T9
  go_wp2_with fail
  refine (tabl.symbols Ta.out).mono ?_
  rintro e w' ⟨rfl, rfl⟩
  go_wp2_with fail
  refine (kLen Sa.out).mono ?_
  rintro e w' ⟨rfl, rfl⟩
  go_wp2
  go_ret
  exact ⟨rfl, grows B1.out Sa.out.2⟩
end Go.Proofs.Ytiakknbgoahgiaa.Pk
