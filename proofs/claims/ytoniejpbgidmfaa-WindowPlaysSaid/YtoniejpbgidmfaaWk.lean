/-
  The law file's known(), for windows: it answers true; nothing that was there has changed.
  Conditions: none.
-/
import Derived.Test.YtoniejpbgidmfaaWd
namespace Go.Proofs.Ytoniejpbgidmfaa.Wk
open Go.RowKit Go.Proofs.Ytoniejpbgidmfaa.Vm Go.Proofs.Ytoniejpbgidmfaa.Vo Go.Proofs.Ytoniejpbgidmfaa.Bw Go.Proofs.Ytoniejpbgidmfaa.Br Go.Proofs.Ytoniejpbgidmfaa.Wr Go.Proofs.Ytoniejpbgidmfaa.Wc Go.Proofs.Ytoniejpbgidmfaa.Ww Go.Proofs.Ytoniejpbgidmfaa.Wx Go.Proofs.Ytoniejpbgidmfaa.Wp Go.Proofs.Ytoniejpbgidmfaa.Wq Go.Proofs.Ytoniejpbgidmfaa.Wn Go.Proofs.Ytoniejpbgidmfaa.Wo Go.Proofs.Ytoniejpbgidmfaa.Wd

/-- A window that holds c, all of it from base on. -/
def holds (base : Nat) (w : World) (g : Nat) (c : List UInt8) : Prop := ∃ v l x, win base w g v l x ∧ cont l x = c
section
variable {base : Nat} {w : World} {g : Nat} {c : List UInt8}
theorem holds.len (h : holds base w g c) : c.length ≤ 32768 := by
  obtain ⟨v, l, x, h1, h2⟩ := h
  rw [← h2, cont_length]; exact h1.r.le
theorem holds.below {w' : World} (h : holds base w g c) (k : Below w.heap.size w w') : holds base w' g c := by
  obtain ⟨v, l, x, h1, h2⟩ := h
  exact ⟨v, l, x, h1.below k, h2⟩
theorem hNew (s : ByteArray) (hs : s.size ≤ 9223372036854775807) (w : World) :
    Calls Try.prog 8 #[.string s] w fun e w' => e = .returned (.pointer (some ⟨w.heap.size, 0, none⟩)) ∧ holds w.heap.size w' w.heap.size (Wm.lastN 32768 s.data.toList) ∧ Below w.heap.size w w' :=
  (New_any s hs w).mono (fun _ _ ⟨v, l, x, h1, h2, h3, h4⟩ => ⟨h1, ⟨v, l, x, h2, h3⟩, h4⟩)
theorem hPut (h : holds base w g c) (s : ByteArray) (hs : s.size ≤ 9223372036854775807) :
    Calls Try.prog 12 #[.pointer (some ⟨g, 0, none⟩), .string s] w fun e w' => e = .returned (.tuple #[]) ∧ holds base w' g (Wm.put 32768 c s.data.toList) ∧ Below base w w' := by
  obtain ⟨v, l, x, h1, h2⟩ := h
  subst h2
  exact (Put_any h1 s hs).mono (fun _ _ ⟨h3, v', l', x', h4, h5, h6, h7⟩ => ⟨h3, ⟨v', l', x', h4, h5⟩, h6.below (Below.refl _ _) h1.b0 h1.lo⟩)
theorem hCopy_no (h : holds base w g c) (d n : Int) (he : copE c.length d n ≠ 0) :
    Calls Try.prog 13 #[.pointer (some ⟨g, 0, none⟩), .int .i64 d, .int .i64 n] w fun e w' => e = .returned (.tuple #[.string ⟨#[]⟩, .int .i64 (copE c.length d n)]) ∧ w = w' := by
  obtain ⟨v, l, x, h1, h2⟩ := h
  have e : c.length = l.length := by rw [← h2, cont_length]
  rw [e] at he ⊢
  exact Copy_no h1 d n he
theorem hCopy_ok (h : holds base w g c) {D N : Nat} (hN : N ≤ 65536) (hD : 1 ≤ D) (hc : D ≤ c.length) :
    Calls Try.prog 13 #[.pointer (some ⟨g, 0, none⟩), .int .i64 D, .int .i64 N] w fun e w' => e = .returned (.tuple #[.string ⟨(Wm.out c D N).toArray⟩, .int .i64 0]) ∧ holds base w' g (Wm.put 32768 c (Wm.out c D N)) ∧ Below base w w' := by
  obtain ⟨v, l, x, h1, h2⟩ := h
  have e : c.length = l.length := by rw [← h2, cont_length]
  rw [e] at hc
  subst h2
  exact (Copy_ok h1 hN hD hc).mono (fun _ _ ⟨h3, v', l', x', h4, h5, h6, h7⟩ => ⟨h3, ⟨v', l', x', h4, h5⟩, h6.below (Below.refl _ _) h1.b0 h1.lo⟩)
theorem hLen (h : holds base w g c) : Calls Try.prog 19 #[.pointer (some ⟨g, 0, none⟩)] w fun e w' => e = .returned (.int .i64 c.length) ∧ w = w' := by
  obtain ⟨v, l, x, h1, h2⟩ := h
  have e : c.length = l.length := by rw [← h2, cont_length]
  rw [e]
  exact Len_any h1
theorem hLast (h : holds base w g c) (n : Int) : Calls Try.prog 15 #[.pointer (some ⟨g, 0, none⟩), .int .i64 n] w fun e w' => e = .returned (.string ⟨(Wm.lastN n.toNat c).toArray⟩) ∧ Below w.heap.size w w' := by
  obtain ⟨v, l, x, h1, h2⟩ := h
  subst h2
  exact Last_any h1 n
theorem hClear (h : holds base w g c) : Calls Try.prog 17 #[.pointer (some ⟨g, 0, none⟩)] w fun e w' => e = .returned (.tuple #[]) ∧ holds base w' g [] ∧ Below base w w' := by
  obtain ⟨v, l, x, h1, h2⟩ := h
  exact (Clear_any h1).mono (fun _ _ ⟨h3, v', h4, h5, h6⟩ => ⟨h3, ⟨v', [], 0, h4, rfl⟩, h5.below (Below.refl _ _) h1.b0 h1.lo⟩)
end

theorem last_small {m : Nat} {l : List UInt8} (h : l.length ≤ 7) (hm : 7 ≤ m) : Wm.lastN m l = l := Wm.lastN_all (by omega)
theorem k_new : Wm.lastN 32768 (⟨#[97, 98]⟩ : ByteArray).data.toList = [97, 98] := last_small (by decide) (by omega)
theorem k_out : Wm.out [97, 98] 2 5 = [97, 98, 97, 98, 97] := by decide
theorem k_put : Wm.put 32768 [97, 98] [97, 98, 97, 98, 97] = [97, 98, 97, 98, 97, 98, 97] := last_small (by decide) (by omega)
theorem k_last : Wm.lastN (3 : Int).toNat [97, 98, 97, 98, 97, 98, 97] = ([97, 98, 97] : List UInt8) := by decide
theorem k_err : copE 7 9 1 = 10 := by decide
theorem kCopy {base : Nat} {w : World} {g : Nat} (h : holds base w g [97, 98]) : Calls Try.prog 13 #[.pointer (some ⟨g, 0, none⟩), .int .i64 2, .int .i64 5] w fun e w' => e = .returned (.tuple #[.string ⟨#[97, 98, 97, 98, 97]⟩, .int .i64 0]) ∧ holds base w' g [97, 98, 97, 98, 97, 98, 97] ∧ Below base w w' := by
  have k := hCopy_ok h (D := 2) (N := 5) (by omega) (by omega) (by decide)
  rw [k_out, k_put] at k
  exact k
theorem kCopy2 {base : Nat} {w : World} {g : Nat} (h : holds base w g [97, 98, 97, 98, 97, 98, 97]) : Calls Try.prog 13 #[.pointer (some ⟨g, 0, none⟩), .int .i64 9, .int .i64 1] w fun e w' => e = .returned (.tuple #[.string ⟨#[]⟩, .int .i64 10]) ∧ w = w' :=
  hCopy_no h 9 1 (by decide)
theorem kLast {base : Nat} {w : World} {g : Nat} (h : holds base w g [97, 98, 97, 98, 97, 98, 97]) : Calls Try.prog 15 #[.pointer (some ⟨g, 0, none⟩), .int .i64 3] w fun e w' => e = .returned (.string ⟨#[97, 98, 97]⟩) ∧ Below w.heap.size w w' := by
  have k := hLast h 3
  rw [k_last] at k
  exact k
theorem kLen {base : Nat} {w : World} {g : Nat} (h : holds base w g [97, 98, 97, 98, 97, 98, 97]) : Calls Try.prog 19 #[.pointer (some ⟨g, 0, none⟩)] w fun e w' => e = .returned (.int .i64 7) ∧ w = w' := hLen h

theorem known_any (w : World) : Calls Try.prog 7 #[] w fun e w' => e = .returned (.bool true) ∧ Below w.heap.size w w' := by
  have HN := Lib.hid (hNew ⟨#[97, 98]⟩ (by decide) w)
  rw [k_new] at HN
  obtain ⟨B, hB⟩ : ∃ B, B = w.heap.size := ⟨_, rfl⟩
  have HB := Lib.hid hB
  rw [← hB] at HN ⊢
  clear hB
  go_enter Try.func7, Try.ntmps7
  go_wp2_with (go_at_call 8; refine HN.out.mono ?_; rintro e w1 ⟨rfl, h1, b1⟩; have H1 := Lib.hid h1; have B1 := Lib.hid b1; clear h1 b1 HN)
  refine (kCopy H1.out).mono ?_
  rintro e w2 ⟨rfl, h2, b2⟩
  have H2 := Lib.hid h2
  have B2 := Lib.hid (B1.out.trans b2)
  clear h2 b2
  go_wp2_with fail
  refine (kCopy2 H2.out).mono ?_
  rintro e w3 ⟨rfl, rfl⟩
  go_wp2_with (first | (go_at_call 15; refine (kLast H2.out).mono ?_; rintro e w4 ⟨rfl, b4⟩; have H4 := Lib.hid (H2.out.below b4); have B4 := Lib.hid b4; clear b4) | (go_at_call 19; refine (kLen H4.out).mono ?_; rintro e w5 ⟨rfl, rfl⟩))
  go_ret
  refine ⟨rfl, B2.out.trans (B4.out.mono ?_)⟩
  rw [HB.out]
  have := B2.out.size
  exact this
end Go.Proofs.Ytoniejpbgidmfaa.Wk
