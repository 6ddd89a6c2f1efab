/-
  New: no table and what is wrong, or a table of the codes of these lengths.
  Conditions: none but the row.
-/
import Derived.Test.YtgbdecnaamlekaaDoorPf
import Derived.Test.YtgbdecnaamlekaaDoorPy
import Derived.Test.YtgbdecnaamlekaaDoorNf
import Derived.Great.BuildSlice
namespace Go.Proofs.YtgbdecnaamlekaaDoor.Pg
open Go.RowKit Go.Proofs.YtgbdecnaamlekaaDoor.Vm Go.Proofs.YtgbdecnaamlekaaDoor.Bm Go.Proofs.YtgbdecnaamlekaaDoor.Bt Go.Proofs.YtgbdecnaamlekaaDoor.Bw Go.Proofs.YtgbdecnaamlekaaDoor.Br Go.Proofs.YtgbdecnaamlekaaDoor.Bs Go.Proofs.YtgbdecnaamlekaaDoor.Na Go.Proofs.YtgbdecnaamlekaaDoor.Nm Go.Proofs.YtgbdecnaamlekaaDoor.Nw Go.Proofs.YtgbdecnaamlekaaDoor.Ni Go.Proofs.YtgbdecnaamlekaaDoor.Nc Go.Proofs.YtgbdecnaamlekaaDoor.Nd Go.Proofs.YtgbdecnaamlekaaDoor.Ne Go.Proofs.YtgbdecnaamlekaaDoor.Nf Go.Proofs.YtgbdecnaamlekaaDoor.Pm Go.Proofs.YtgbdecnaamlekaaDoor.Pt Go.Proofs.YtgbdecnaamlekaaDoor.Pc Go.Proofs.YtgbdecnaamlekaaDoor.Pd Go.Proofs.YtgbdecnaamlekaaDoor.Pe Go.Proofs.YtgbdecnaamlekaaDoor.Pf Go.Proofs.YtgbdecnaamlekaaDoor.Py

set_option maxRecDepth 100000 in
theorem New_no {A : Option Addr} {n cap : Nat} {f : Nat → Int} (hn : n ≤ 9223372036854775807) (he : err n f ≠ 0) {w : World} (HC : Hid (row w A n f)) :
    Calls Tryd.prog 85 #[.slice A n cap] w fun e w' => e = .returned (.tuple #[.pointer none, .int .i64 (err n f)]) ∧ Below w.heap.size w w' := by
  have HU := Lib.hid (Codes_no (cap := cap) hn he HC)
  obtain ⟨e, hee⟩ : ∃ e, e = err n f := ⟨_, rfl⟩
  rw [← hee] at HU he ⊢
  clear hee HC
  go_enter Tryd.func85, Tryd.ntmps85
  go_wp2_with fail
  refine HU.out.mono ?_
  rintro e w' ⟨rfl, b1⟩
  go_wp2
  go_ret2
  exact ⟨rfl, b1⟩

/-- A table of the first k lengths. -/
def part (base : Nat) (w : World) (g n : Nat) (l : List Nat) (k : Nat) : Prop := ∃ F v bs G, tb base w g n F v bs G ∧ inv l k bs.length none F G
theorem add_any {base : Nat} {w : World} {g n : Nat} {l : List Nat} {k : Nat} (h15 : ∀ i, nth l i ≤ 15) (hks : ksum l 16 ≤ 32768) (hkl : k < l.length) (hl : l.length ≤ 320) (h0 : 0 < nth l k) (h : part base w g n l k) :
    Calls Tryd.prog 99 #[.pointer (some ⟨g, 0, none⟩), .int .i64 k, .int .i64 (code l k), .int .i64 (nth l k)] w fun e w' => e = .returned (.tuple #[]) ∧ part base w' g n l (k + 1) ∧ Below base w w' := by
  obtain ⟨F, v, bs, G, ht, hi⟩ := h
  have hT := turn_code (l := l) (k := k) (h15 k) (code_lt hkl (h15 k) hks)
  by_cases h9 : nth l k ≤ 9
  · refine (add_short ht (by omega) h9 hT (tc_lt l k)).mono ?_
    rintro e w' ⟨rfl, t', b'⟩
    exact ⟨rfl, ⟨_, v, bs, G, t', inv_short h15 hks hkl h0 h9 hi⟩, b'⟩
  · refine (add_long h15 hks hkl hl (by omega) ht hi hT).mono ?_
    rintro e w' ⟨rfl, F', v', bs', G', t', i', b'⟩
    exact ⟨rfl, ⟨F', v', bs', G', t', i'⟩, b'⟩
theorem part_zero (w : World) (n : Nat) (l : List Nat) : part w.heap.size (w.alloc (.cells (tcells (.pointer (some ⟨w.heap.size, 0, none⟩)) n (fun _ => (0, 0)) (.slice none 0 0)) 128)) w.heap.size n l 0 :=
  ⟨fun _ => (0, 0), .slice none 0 0, [], fun _ _ => (0, 0), ⟨Blk.fresh w _ _, World.ownsRow_nil _ _ _ _, fun i hi => absurd hi (by simp), fun i j hi => absurd hi (by simp), fun i hi => absurd hi (by simp), Nat.le_refl _⟩, inv_zero l _⟩
theorem part_skip {base : Nat} {w : World} {g n : Nat} {l : List Nat} {k : Nat} (h : part base w g n l k) (h0 : nth l k = 0) : part base w g n l (k + 1) := by
  obtain ⟨F, v, bs, G, ht, hi⟩ := h
  exact ⟨F, v, bs, G, ht, inv_skip hi h0⟩

/-- A table of these lengths lies at block g. -/
def tabl (w : World) (g n : Nat) (l : List Nat) : Prop := ∃ base, part base w g n l n

set_option maxHeartbeats 1000000 in
set_option maxRecDepth 100000 in
theorem New_ok {A : Option Addr} {n cap : Nat} {f : Nat → Int} (he : err n f = 0) {w : World} (HC : Hid (row w A n f)) :
    Calls Tryd.prog 85 #[.slice A n cap] w fun e w' => ∃ g, e = .returned (.tuple #[.pointer (some ⟨g, 0, none⟩), .int .i64 0]) ∧ tabl w' g n (L n f) ∧ w.heap.size ≤ g ∧ Below w.heap.size w w' := by
  obtain ⟨h1, h2, h3⟩ := err_zero he
  have HO := Lib.hid (Codes_ok (cap := cap) he HC)
  have HR := Lib.hid (L_row h2 HC.out)
  have H15 := Lib.hid (L_le h2)
  obtain ⟨l, hl⟩ : ∃ l, l = L n f := ⟨_, rfl⟩
  have hln : Hid (l.length = n) := Lib.hid (by rw [hl, L_length])
  rw [← hl] at HO HR H15 h3 ⊢
  have H3 := Lib.hid h3
  have hbu := built n
  obtain ⟨T, hT⟩ : ∃ T, T = tcells (.pointer none) n (fun _ => (0, 0)) (.slice none 0 0) := ⟨_, rfl⟩
  rw [← hT] at hbu
  have HBu := Lib.hid hbu
  have t0 : T[0]? = some (.pointer none) := by rw [hT]; exact t_c0 _ _ _ _
  clear hbu
  have HT := Lib.hid hT
  clear hl h2 h3 he HC hT
  go_enter Tryd.func85, Tryd.ntmps85
  go_wp2_with fail
  refine HO.out.mono ?_
  rintro e w1 ⟨gc, rfl, hg, hgc, hb1⟩
  have B1 := Lib.hid hb1
  have G1 := Lib.hid hg
  clear hb1 hg HO
  go_wp2_with (refine wpList_buildTo rfl 128 #[(1, .tmp 18)] rfl (some 19) rfl T ?hbb ?_)
  case hbb => exact HBu.out
  obtain ⟨w2, hw2⟩ : ∃ w2, w2 = w1.alloc (.cells (T.setIfInBounds 0 (.pointer (some ⟨w1.heap.size, 0, none⟩))) 128) := ⟨_, rfl⟩
  have P2 : Hid (part w1.heap.size w2 w1.heap.size n l 0) := Lib.hid (by rw [hw2, HT.out, t_set0]; exact part_zero w1 n l)
  have B2 : Hid (Below w1.heap.size w1 w2) := Lib.hid (by rw [hw2]; exact below_alloc _ _)
  rw [← hw2]
  have HG := Lib.hid (show w.heap.size ≤ w1.heap.size from B1.out.size)
  clear hw2 t0 HBu HT
  obtain ⟨g, hg⟩ : ∃ g, g = w1.heap.size := ⟨_, rfl⟩
  have HGe := Lib.hid hg
  rw [← hg] at P2 HG ⊢
  clear hg
  go_loopw [27] (fun z wr => ∃ k : Nat, z = .int .i64 k ∧ k ≤ n ∧ Hid (part g wr g n l k) ∧ Hid (Below w1.heap.size w1 wr)) (fun z _ => n - (intOf z).toNat)
  case atStart => exact ⟨0, rfl, by omega, P2, B2⟩
  case round =>
    obtain ⟨k, rfl, hk, P3, B3⟩ := hrel
    clear P2 B2
    by_cases hkn : k < n
    · have hkl : Hid (k < l.length) := Lib.hid (by rw [hln.out]; exact hkn)
      obtain ⟨b, off, rfl, hbl, hx0⟩ := HR.out.get (k := k) hkl.out
      have kx := (B3.out.cell (p := ⟨b, off + k, none⟩) (Nat.lt_of_lt_of_le hbl B1.out.size)).trans ((B1.out.cell (p := ⟨b, off + k, none⟩) hbl).trans hx0)
      have ci := ((G1.out.below B3.out).cell k).trans (arr_get _ hkn)
      have HA := fun h0 : 0 < nth l k => Lib.hid (add_any H15.out H3.out hkl.out (by rw [hln.out]; exact h1) h0 P3.out)
      have HS := fun h0 : nth l k = 0 => Lib.hid (part_skip P3.out h0)
      have hx15 := H15.out k
      obtain ⟨x, hx⟩ : ∃ x, x = nth l k := ⟨_, rfl⟩
      obtain ⟨c, hc⟩ : ∃ c, c = code l k := ⟨_, rfl⟩
      rw [← hx] at kx HA HS hx15
      rw [← hc] at ci HA
      clear hx hc hx0
      rcases Nat.eq_zero_or_pos x with rfl | h0
      · have P4 := HS rfl
        clear HA HS
        go_wp2
        go_roundw
        case rel => exact ⟨k + 1, by go_num, by omega, P4, B3⟩
        case measure => simp [intOf]; omega
      · have A4 := HA h0
        clear HA HS
        go_wp2_with fail
        refine A4.out.mono ?_
        rintro e w4 ⟨rfl, p4, b4⟩
        have P4 := Lib.hid p4
        have B4 : Hid (Below w1.heap.size w1 w4) := Lib.hid (B3.out.trans (by rw [← HGe.out]; exact b4))
        clear p4 b4
        go_wp2
        go_roundw
        case rel => exact ⟨k + 1, by go_num, by omega, P4, B4⟩
        case measure => simp [intOf]; omega
    · have hk8 := Lib.hid (show k = n by omega)
      go_wp2
      go_ret2
      exact ⟨g, rfl, ⟨g, by have h := P3.out; rw [hk8.out] at h; exact h⟩, HG.out, grows B1.out B3.out⟩
end Go.Proofs.YtgbdecnaamlekaaDoor.Pg
