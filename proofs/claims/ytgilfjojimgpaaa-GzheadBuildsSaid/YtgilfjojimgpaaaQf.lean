/-
  The reference's Right of layer 12, called with any head: whether the head is right. (Made by tools/genright12.py.)
  Conditions: strings of at most 2^63 - 1 bytes.
-/
import Derived.Test.YtgilfjojimgpaaaQe
namespace Go.Proofs.Ytgilfjojimgpaaa.Qf
open Go.RowKit Go.Proofs.Ytgilfjojimgpaaa.Vm Go.Proofs.Ytgilfjojimgpaaa.Vo Go.Proofs.Ytgilfjojimgpaaa.Vf Go.Proofs.Ytgilfjojimgpaaa.Bw Go.Proofs.Ytgilfjojimgpaaa.Qm Go.Proofs.Ytgilfjojimgpaaa.Qa Go.Proofs.Ytgilfjojimgpaaa.Qb Go.Proofs.Ytgilfjojimgpaaa.Qc Go.Proofs.Ytgilfjojimgpaaa.Qd Go.Proofs.Ytgilfjojimgpaaa.Qe

theorem imp_or {p q : Prop} [Decidable p] : (¬ p → q) ↔ (p ∨ q) := by
  constructor
  · intro h
    by_cases hp : p
    · exact .inl hp
    · exact .inr (h hp)
  · intro h hp
    exact h.resolve_left hp
theorem rright_iff (t : Int) (e n c : ByteArray) (v o : Int) (x m : Bool) (f : Int) :
    rightQ (hq t e n c v o x m f) ↔ (¬ t < 0 ∧ ¬ 4294967295 < t ∧ ¬ v < 0 ∧ ¬ 255 < v ∧ ¬ o < 0 ∧ ¬ 255 < o ∧ ¬ f < 0 ∧ ¬ 28 < f ∧ f % 4 = 0 ∧ ¬ (65535 : Int) < (e.size : Int) ∧ (hsF f 4 = true ∨ e.toList = []) ∧ hasE n = false ∧ hasE c = false ∧ (hsF f 8 = true ∨ n.toList = []) ∧ (hsF f 16 = true ∨ c.toList = [])) := by
  have hs : e.data.toList.length = e.size := by rw [Array.length_toList]; rfl
  unfold rightQ hq hsF hasE
  simp only [decide_eq_true_eq, decide_eq_false_iff_not, hs, nil_iff, imp_or]
  constructor
  · rintro ⟨a, b, c', d, e1, n1, c1⟩
    exact ⟨by omega, by omega, by omega, by omega, by omega, by omega, by omega, by omega, d.2.2, by omega, e1.2, n1.1, c1.1, n1.2, c1.2⟩
  · rintro ⟨a1, a2, a3, a4, a5, a6, a7, a8, a9, a10, a11, a12, a13, a14, a15⟩
    exact ⟨by omega, by omega, by omega, by omega, ⟨by omega, a11⟩, ⟨a12, a14⟩, ⟨a13, a15⟩⟩

/-- What is answered: whether the head is right. -/
def ansR (q : Hq) (e : Ending) : Prop := ∃ b, e = .returned (.bool b) ∧ (b = true ↔ rightQ q)
theorem ans_mk {q : Hq} {e : Ending} {b : Bool} (h : e = .returned (.bool b)) (k : b = true ↔ rightQ q) : ansR q e := ⟨b, h, k⟩
set_option maxHeartbeats 4000000 in
set_option maxRecDepth 100000 in
theorem rRight_any (t : Int) (e n c : ByteArray) (v o : Int) (x m : Bool) (f : Int) (w : World) (hn : n.size ≤ 9223372036854775807) (hcs : c.size ≤ 9223372036854775807) :
    Calls Try.prog 12 #[.agg (cs9 t e n c v o x m f)] w fun e' w' => ansR (hq t e n c v o x m f) e' ∧ Below w.heap.size w w' := by
  by_cases hc0 : t < 0
  · have HC0 := Lib.hid hc0
    go_enter Try.func12, Try.ntmps12
    go_wp2_with (first | (go_at_call 20; refine (has_any _ _ _ F0.out FM.out (by first | exact .inr (.inr (.inl rfl)) | exact .inr (.inr (.inr (.inl rfl))) | exact .inr (.inr (.inr (.inr rfl))))).mono ?_; rintro e w' ⟨rfl, rfl⟩) | (go_at_call 25; refine (bare_any _ _ (by omega)).mono ?_; rintro e w' ⟨rfl, rfl⟩))
    go_ret
    exact ⟨ans_mk rfl (⟨fun h => (by cases h), fun k => (by obtain ⟨a0, a1, a2, a3, a4, a5, a6, a7, a8, a9, a10, a11, a12, a13, a14⟩ := (rright_iff t e n c v o x m f).1 k; have := HC0.out; omega)⟩), (Below.refl _ w).alloc (Nat.le_refl _) _⟩
  · have HC0 := Lib.hid hc0
    by_cases hc1 : 4294967295 < t
    · have HC1 := Lib.hid hc1
      go_enter Try.func12, Try.ntmps12
      go_wp2_with (first | (go_at_call 20; refine (has_any _ _ _ F0.out FM.out (by first | exact .inr (.inr (.inl rfl)) | exact .inr (.inr (.inr (.inl rfl))) | exact .inr (.inr (.inr (.inr rfl))))).mono ?_; rintro e w' ⟨rfl, rfl⟩) | (go_at_call 25; refine (bare_any _ _ (by omega)).mono ?_; rintro e w' ⟨rfl, rfl⟩))
      go_ret
      exact ⟨ans_mk rfl (⟨fun h => (by cases h), fun k => (by obtain ⟨a0, a1, a2, a3, a4, a5, a6, a7, a8, a9, a10, a11, a12, a13, a14⟩ := (rright_iff t e n c v o x m f).1 k; have := HC1.out; omega)⟩), (Below.refl _ w).alloc (Nat.le_refl _) _⟩
    · have HC1 := Lib.hid hc1
      by_cases hc2 : v < 0
      · have HC2 := Lib.hid hc2
        go_enter Try.func12, Try.ntmps12
        go_wp2_with (first | (go_at_call 20; refine (has_any _ _ _ F0.out FM.out (by first | exact .inr (.inr (.inl rfl)) | exact .inr (.inr (.inr (.inl rfl))) | exact .inr (.inr (.inr (.inr rfl))))).mono ?_; rintro e w' ⟨rfl, rfl⟩) | (go_at_call 25; refine (bare_any _ _ (by omega)).mono ?_; rintro e w' ⟨rfl, rfl⟩))
        go_ret
        exact ⟨ans_mk rfl (⟨fun h => (by cases h), fun k => (by obtain ⟨a0, a1, a2, a3, a4, a5, a6, a7, a8, a9, a10, a11, a12, a13, a14⟩ := (rright_iff t e n c v o x m f).1 k; have := HC2.out; omega)⟩), (Below.refl _ w).alloc (Nat.le_refl _) _⟩
      · have HC2 := Lib.hid hc2
        by_cases hc3 : 255 < v
        · have HC3 := Lib.hid hc3
          go_enter Try.func12, Try.ntmps12
          go_wp2_with (first | (go_at_call 20; refine (has_any _ _ _ F0.out FM.out (by first | exact .inr (.inr (.inl rfl)) | exact .inr (.inr (.inr (.inl rfl))) | exact .inr (.inr (.inr (.inr rfl))))).mono ?_; rintro e w' ⟨rfl, rfl⟩) | (go_at_call 25; refine (bare_any _ _ (by omega)).mono ?_; rintro e w' ⟨rfl, rfl⟩))
          go_ret
          exact ⟨ans_mk rfl (⟨fun h => (by cases h), fun k => (by obtain ⟨a0, a1, a2, a3, a4, a5, a6, a7, a8, a9, a10, a11, a12, a13, a14⟩ := (rright_iff t e n c v o x m f).1 k; have := HC3.out; omega)⟩), (Below.refl _ w).alloc (Nat.le_refl _) _⟩
        · have HC3 := Lib.hid hc3
          by_cases hc4 : o < 0
          · have HC4 := Lib.hid hc4
            go_enter Try.func12, Try.ntmps12
            go_wp2_with (first | (go_at_call 20; refine (has_any _ _ _ F0.out FM.out (by first | exact .inr (.inr (.inl rfl)) | exact .inr (.inr (.inr (.inl rfl))) | exact .inr (.inr (.inr (.inr rfl))))).mono ?_; rintro e w' ⟨rfl, rfl⟩) | (go_at_call 25; refine (bare_any _ _ (by omega)).mono ?_; rintro e w' ⟨rfl, rfl⟩))
            go_ret
            exact ⟨ans_mk rfl (⟨fun h => (by cases h), fun k => (by obtain ⟨a0, a1, a2, a3, a4, a5, a6, a7, a8, a9, a10, a11, a12, a13, a14⟩ := (rright_iff t e n c v o x m f).1 k; have := HC4.out; omega)⟩), (Below.refl _ w).alloc (Nat.le_refl _) _⟩
          · have HC4 := Lib.hid hc4
            by_cases hc5 : 255 < o
            · have HC5 := Lib.hid hc5
              go_enter Try.func12, Try.ntmps12
              go_wp2_with (first | (go_at_call 20; refine (has_any _ _ _ F0.out FM.out (by first | exact .inr (.inr (.inl rfl)) | exact .inr (.inr (.inr (.inl rfl))) | exact .inr (.inr (.inr (.inr rfl))))).mono ?_; rintro e w' ⟨rfl, rfl⟩) | (go_at_call 25; refine (bare_any _ _ (by omega)).mono ?_; rintro e w' ⟨rfl, rfl⟩))
              go_ret
              exact ⟨ans_mk rfl (⟨fun h => (by cases h), fun k => (by obtain ⟨a0, a1, a2, a3, a4, a5, a6, a7, a8, a9, a10, a11, a12, a13, a14⟩ := (rright_iff t e n c v o x m f).1 k; have := HC5.out; omega)⟩), (Below.refl _ w).alloc (Nat.le_refl _) _⟩
            · have HC5 := Lib.hid hc5
              by_cases hc6 : f < 0
              · have HC6 := Lib.hid hc6
                go_enter Try.func12, Try.ntmps12
                go_wp2_with (first | (go_at_call 20; refine (has_any _ _ _ F0.out FM.out (by first | exact .inr (.inr (.inl rfl)) | exact .inr (.inr (.inr (.inl rfl))) | exact .inr (.inr (.inr (.inr rfl))))).mono ?_; rintro e w' ⟨rfl, rfl⟩) | (go_at_call 25; refine (bare_any _ _ (by omega)).mono ?_; rintro e w' ⟨rfl, rfl⟩))
                go_ret
                exact ⟨ans_mk rfl (⟨fun h => (by cases h), fun k => (by obtain ⟨a0, a1, a2, a3, a4, a5, a6, a7, a8, a9, a10, a11, a12, a13, a14⟩ := (rright_iff t e n c v o x m f).1 k; have := HC6.out; omega)⟩), (Below.refl _ w).alloc (Nat.le_refl _) _⟩
              · have HC6 := Lib.hid hc6
                have F0 := Lib.hid (Int.not_lt.1 hc6)
                by_cases hc7 : 28 < f
                · have HC7 := Lib.hid hc7
                  go_enter Try.func12, Try.ntmps12
                  go_wp2_with (first | (go_at_call 20; refine (has_any _ _ _ F0.out FM.out (by first | exact .inr (.inr (.inl rfl)) | exact .inr (.inr (.inr (.inl rfl))) | exact .inr (.inr (.inr (.inr rfl))))).mono ?_; rintro e w' ⟨rfl, rfl⟩) | (go_at_call 25; refine (bare_any _ _ (by omega)).mono ?_; rintro e w' ⟨rfl, rfl⟩))
                  go_ret
                  exact ⟨ans_mk rfl (⟨fun h => (by cases h), fun k => (by obtain ⟨a0, a1, a2, a3, a4, a5, a6, a7, a8, a9, a10, a11, a12, a13, a14⟩ := (rright_iff t e n c v o x m f).1 k; have := HC7.out; omega)⟩), (Below.refl _ w).alloc (Nat.le_refl _) _⟩
                · have HC7 := Lib.hid hc7
                  have FM := Lib.hid (show f ≤ 9223372036854775807 by omega)
                  by_cases hm : f % 4 = 0
                  · have HM := Lib.hid hm
                    by_cases he : (65535 : Int) < (e.size : Int)
                    · have HE := Lib.hid he
                      go_enter Try.func12, Try.ntmps12
                      go_wp2_with (first | (go_at_call 20; refine (has_any _ _ _ F0.out FM.out (by first | exact .inr (.inr (.inl rfl)) | exact .inr (.inr (.inr (.inl rfl))) | exact .inr (.inr (.inr (.inr rfl))))).mono ?_; rintro e w' ⟨rfl, rfl⟩) | (go_at_call 25; refine (bare_any _ _ (by omega)).mono ?_; rintro e w' ⟨rfl, rfl⟩))
                      go_ret
                      exact ⟨ans_mk rfl (⟨fun h => (by cases h), fun k => (by obtain ⟨a0, a1, a2, a3, a4, a5, a6, a7, a8, a9, a10, a11, a12, a13, a14⟩ := (rright_iff t e n c v o x m f).1 k; have := HE.out; omega)⟩), (Below.refl _ w).alloc (Nat.le_refl _) _⟩
                    · have HE := Lib.hid he
                      cases h4 : hsF f 4
                      · by_cases hs4 : e.toList = []
                        · have HS4 := Lib.hid hs4
                          have hi4 : e.toList.isEmpty = true := by rw [hs4]; rfl
                          clear hs4
                          cases hbn : hasE n
                          · skip
                            cases hbc : hasE c
                            · skip
                              cases h8 : hsF f 8
                              · by_cases hs8 : n.toList = []
                                · have HS8 := Lib.hid hs8
                                  have hi8 : n.toList.isEmpty = true := by rw [hs8]; rfl
                                  clear hs8
                                  cases h16 : hsF f 16
                                  · by_cases hs16 : c.toList = []
                                    · have HS16 := Lib.hid hs16
                                      have hi16 : c.toList.isEmpty = true := by rw [hs16]; rfl
                                      clear hs16
                                      go_enter Try.func12, Try.ntmps12
                                      go_wp2_with (first | (go_at_call 20; refine (has_any _ _ _ F0.out FM.out (by first | exact .inr (.inr (.inl rfl)) | exact .inr (.inr (.inr (.inl rfl))) | exact .inr (.inr (.inr (.inr rfl))))).mono ?_; rintro e w' ⟨rfl, rfl⟩) | (go_at_call 25; refine (bare_any _ _ (by omega)).mono ?_; rintro e w' ⟨rfl, rfl⟩))
                                      go_ret
                                      exact ⟨ans_mk rfl (⟨fun _ => (rright_iff t e n c v o x m f).2 ⟨(by have := HC0.out; omega), (by have := HC1.out; omega), (by have := HC2.out; omega), (by have := HC3.out; omega), (by have := HC4.out; omega), (by have := HC5.out; omega), (by have := HC6.out; omega), (by have := HC7.out; omega), HM.out, (by have := HE.out; omega), .inr HS4.out, hbn, hbc, .inr HS8.out, .inr HS16.out⟩, fun _ => rfl⟩), (Below.refl _ w).alloc (Nat.le_refl _) _⟩
                                    · have hi16 : c.toList.isEmpty = false := by simpa using hs16
                                      clear hs16
                                      go_enter Try.func12, Try.ntmps12
                                      go_wp2_with (first | (go_at_call 20; refine (has_any _ _ _ F0.out FM.out (by first | exact .inr (.inr (.inl rfl)) | exact .inr (.inr (.inr (.inl rfl))) | exact .inr (.inr (.inr (.inr rfl))))).mono ?_; rintro e w' ⟨rfl, rfl⟩) | (go_at_call 25; refine (bare_any _ _ (by omega)).mono ?_; rintro e w' ⟨rfl, rfl⟩))
                                      go_ret
                                      exact ⟨ans_mk rfl (⟨fun h => (by cases h), fun k => (by obtain ⟨a0, a1, a2, a3, a4, a5, a6, a7, a8, a9, a10, a11, a12, a13, a14⟩ := (rright_iff t e n c v o x m f).1 k; rcases a14 with h | h; rw [h16] at h; cases h; rw [h] at hi16; cases hi16)⟩), (Below.refl _ w).alloc (Nat.le_refl _) _⟩
                                  · skip
                                    go_enter Try.func12, Try.ntmps12
                                    go_wp2_with (first | (go_at_call 20; refine (has_any _ _ _ F0.out FM.out (by first | exact .inr (.inr (.inl rfl)) | exact .inr (.inr (.inr (.inl rfl))) | exact .inr (.inr (.inr (.inr rfl))))).mono ?_; rintro e w' ⟨rfl, rfl⟩) | (go_at_call 25; refine (bare_any _ _ (by omega)).mono ?_; rintro e w' ⟨rfl, rfl⟩))
                                    go_ret
                                    exact ⟨ans_mk rfl (⟨fun _ => (rright_iff t e n c v o x m f).2 ⟨(by have := HC0.out; omega), (by have := HC1.out; omega), (by have := HC2.out; omega), (by have := HC3.out; omega), (by have := HC4.out; omega), (by have := HC5.out; omega), (by have := HC6.out; omega), (by have := HC7.out; omega), HM.out, (by have := HE.out; omega), .inr HS4.out, hbn, hbc, .inr HS8.out, .inl h16⟩, fun _ => rfl⟩), (Below.refl _ w).alloc (Nat.le_refl _) _⟩
                                · have hi8 : n.toList.isEmpty = false := by simpa using hs8
                                  clear hs8
                                  go_enter Try.func12, Try.ntmps12
                                  go_wp2_with (first | (go_at_call 20; refine (has_any _ _ _ F0.out FM.out (by first | exact .inr (.inr (.inl rfl)) | exact .inr (.inr (.inr (.inl rfl))) | exact .inr (.inr (.inr (.inr rfl))))).mono ?_; rintro e w' ⟨rfl, rfl⟩) | (go_at_call 25; refine (bare_any _ _ (by omega)).mono ?_; rintro e w' ⟨rfl, rfl⟩))
                                  go_ret
                                  exact ⟨ans_mk rfl (⟨fun h => (by cases h), fun k => (by obtain ⟨a0, a1, a2, a3, a4, a5, a6, a7, a8, a9, a10, a11, a12, a13, a14⟩ := (rright_iff t e n c v o x m f).1 k; rcases a13 with h | h; rw [h8] at h; cases h; rw [h] at hi8; cases hi8)⟩), (Below.refl _ w).alloc (Nat.le_refl _) _⟩
                              · skip
                                cases h16 : hsF f 16
                                · by_cases hs16 : c.toList = []
                                  · have HS16 := Lib.hid hs16
                                    have hi16 : c.toList.isEmpty = true := by rw [hs16]; rfl
                                    clear hs16
                                    go_enter Try.func12, Try.ntmps12
                                    go_wp2_with (first | (go_at_call 20; refine (has_any _ _ _ F0.out FM.out (by first | exact .inr (.inr (.inl rfl)) | exact .inr (.inr (.inr (.inl rfl))) | exact .inr (.inr (.inr (.inr rfl))))).mono ?_; rintro e w' ⟨rfl, rfl⟩) | (go_at_call 25; refine (bare_any _ _ (by omega)).mono ?_; rintro e w' ⟨rfl, rfl⟩))
                                    go_ret
                                    exact ⟨ans_mk rfl (⟨fun _ => (rright_iff t e n c v o x m f).2 ⟨(by have := HC0.out; omega), (by have := HC1.out; omega), (by have := HC2.out; omega), (by have := HC3.out; omega), (by have := HC4.out; omega), (by have := HC5.out; omega), (by have := HC6.out; omega), (by have := HC7.out; omega), HM.out, (by have := HE.out; omega), .inr HS4.out, hbn, hbc, .inl h8, .inr HS16.out⟩, fun _ => rfl⟩), (Below.refl _ w).alloc (Nat.le_refl _) _⟩
                                  · have hi16 : c.toList.isEmpty = false := by simpa using hs16
                                    clear hs16
                                    go_enter Try.func12, Try.ntmps12
                                    go_wp2_with (first | (go_at_call 20; refine (has_any _ _ _ F0.out FM.out (by first | exact .inr (.inr (.inl rfl)) | exact .inr (.inr (.inr (.inl rfl))) | exact .inr (.inr (.inr (.inr rfl))))).mono ?_; rintro e w' ⟨rfl, rfl⟩) | (go_at_call 25; refine (bare_any _ _ (by omega)).mono ?_; rintro e w' ⟨rfl, rfl⟩))
                                    go_ret
                                    exact ⟨ans_mk rfl (⟨fun h => (by cases h), fun k => (by obtain ⟨a0, a1, a2, a3, a4, a5, a6, a7, a8, a9, a10, a11, a12, a13, a14⟩ := (rright_iff t e n c v o x m f).1 k; rcases a14 with h | h; rw [h16] at h; cases h; rw [h] at hi16; cases hi16)⟩), (Below.refl _ w).alloc (Nat.le_refl _) _⟩
                                · skip
                                  go_enter Try.func12, Try.ntmps12
                                  go_wp2_with (first | (go_at_call 20; refine (has_any _ _ _ F0.out FM.out (by first | exact .inr (.inr (.inl rfl)) | exact .inr (.inr (.inr (.inl rfl))) | exact .inr (.inr (.inr (.inr rfl))))).mono ?_; rintro e w' ⟨rfl, rfl⟩) | (go_at_call 25; refine (bare_any _ _ (by omega)).mono ?_; rintro e w' ⟨rfl, rfl⟩))
                                  go_ret
                                  exact ⟨ans_mk rfl (⟨fun _ => (rright_iff t e n c v o x m f).2 ⟨(by have := HC0.out; omega), (by have := HC1.out; omega), (by have := HC2.out; omega), (by have := HC3.out; omega), (by have := HC4.out; omega), (by have := HC5.out; omega), (by have := HC6.out; omega), (by have := HC7.out; omega), HM.out, (by have := HE.out; omega), .inr HS4.out, hbn, hbc, .inl h8, .inl h16⟩, fun _ => rfl⟩), (Below.refl _ w).alloc (Nat.le_refl _) _⟩
                            · go_enter Try.func12, Try.ntmps12
                              go_wp2_with (first | (go_at_call 20; refine (has_any _ _ _ F0.out FM.out (by first | exact .inr (.inr (.inl rfl)) | exact .inr (.inr (.inr (.inl rfl))) | exact .inr (.inr (.inr (.inr rfl))))).mono ?_; rintro e w' ⟨rfl, rfl⟩) | (go_at_call 25; refine (bare_any _ _ (by omega)).mono ?_; rintro e w' ⟨rfl, rfl⟩))
                              go_ret
                              exact ⟨ans_mk rfl (⟨fun h => (by cases h), fun k => (by obtain ⟨a0, a1, a2, a3, a4, a5, a6, a7, a8, a9, a10, a11, a12, a13, a14⟩ := (rright_iff t e n c v o x m f).1 k; rw [a12] at hbc; cases hbc)⟩), (Below.refl _ w).alloc (Nat.le_refl _) _⟩
                          · go_enter Try.func12, Try.ntmps12
                            go_wp2_with (first | (go_at_call 20; refine (has_any _ _ _ F0.out FM.out (by first | exact .inr (.inr (.inl rfl)) | exact .inr (.inr (.inr (.inl rfl))) | exact .inr (.inr (.inr (.inr rfl))))).mono ?_; rintro e w' ⟨rfl, rfl⟩) | (go_at_call 25; refine (bare_any _ _ (by omega)).mono ?_; rintro e w' ⟨rfl, rfl⟩))
                            go_ret
                            exact ⟨ans_mk rfl (⟨fun h => (by cases h), fun k => (by obtain ⟨a0, a1, a2, a3, a4, a5, a6, a7, a8, a9, a10, a11, a12, a13, a14⟩ := (rright_iff t e n c v o x m f).1 k; rw [a11] at hbn; cases hbn)⟩), (Below.refl _ w).alloc (Nat.le_refl _) _⟩
                        · have hi4 : e.toList.isEmpty = false := by simpa using hs4
                          clear hs4
                          go_enter Try.func12, Try.ntmps12
                          go_wp2_with (first | (go_at_call 20; refine (has_any _ _ _ F0.out FM.out (by first | exact .inr (.inr (.inl rfl)) | exact .inr (.inr (.inr (.inl rfl))) | exact .inr (.inr (.inr (.inr rfl))))).mono ?_; rintro e w' ⟨rfl, rfl⟩) | (go_at_call 25; refine (bare_any _ _ (by omega)).mono ?_; rintro e w' ⟨rfl, rfl⟩))
                          go_ret
                          exact ⟨ans_mk rfl (⟨fun h => (by cases h), fun k => (by obtain ⟨a0, a1, a2, a3, a4, a5, a6, a7, a8, a9, a10, a11, a12, a13, a14⟩ := (rright_iff t e n c v o x m f).1 k; rcases a10 with h | h; rw [h4] at h; cases h; rw [h] at hi4; cases hi4)⟩), (Below.refl _ w).alloc (Nat.le_refl _) _⟩
                      · skip
                        cases hbn : hasE n
                        · skip
                          cases hbc : hasE c
                          · skip
                            cases h8 : hsF f 8
                            · by_cases hs8 : n.toList = []
                              · have HS8 := Lib.hid hs8
                                have hi8 : n.toList.isEmpty = true := by rw [hs8]; rfl
                                clear hs8
                                cases h16 : hsF f 16
                                · by_cases hs16 : c.toList = []
                                  · have HS16 := Lib.hid hs16
                                    have hi16 : c.toList.isEmpty = true := by rw [hs16]; rfl
                                    clear hs16
                                    go_enter Try.func12, Try.ntmps12
                                    go_wp2_with (first | (go_at_call 20; refine (has_any _ _ _ F0.out FM.out (by first | exact .inr (.inr (.inl rfl)) | exact .inr (.inr (.inr (.inl rfl))) | exact .inr (.inr (.inr (.inr rfl))))).mono ?_; rintro e w' ⟨rfl, rfl⟩) | (go_at_call 25; refine (bare_any _ _ (by omega)).mono ?_; rintro e w' ⟨rfl, rfl⟩))
                                    go_ret
                                    exact ⟨ans_mk rfl (⟨fun _ => (rright_iff t e n c v o x m f).2 ⟨(by have := HC0.out; omega), (by have := HC1.out; omega), (by have := HC2.out; omega), (by have := HC3.out; omega), (by have := HC4.out; omega), (by have := HC5.out; omega), (by have := HC6.out; omega), (by have := HC7.out; omega), HM.out, (by have := HE.out; omega), .inl h4, hbn, hbc, .inr HS8.out, .inr HS16.out⟩, fun _ => rfl⟩), (Below.refl _ w).alloc (Nat.le_refl _) _⟩
                                  · have hi16 : c.toList.isEmpty = false := by simpa using hs16
                                    clear hs16
                                    go_enter Try.func12, Try.ntmps12
                                    go_wp2_with (first | (go_at_call 20; refine (has_any _ _ _ F0.out FM.out (by first | exact .inr (.inr (.inl rfl)) | exact .inr (.inr (.inr (.inl rfl))) | exact .inr (.inr (.inr (.inr rfl))))).mono ?_; rintro e w' ⟨rfl, rfl⟩) | (go_at_call 25; refine (bare_any _ _ (by omega)).mono ?_; rintro e w' ⟨rfl, rfl⟩))
                                    go_ret
                                    exact ⟨ans_mk rfl (⟨fun h => (by cases h), fun k => (by obtain ⟨a0, a1, a2, a3, a4, a5, a6, a7, a8, a9, a10, a11, a12, a13, a14⟩ := (rright_iff t e n c v o x m f).1 k; rcases a14 with h | h; rw [h16] at h; cases h; rw [h] at hi16; cases hi16)⟩), (Below.refl _ w).alloc (Nat.le_refl _) _⟩
                                · skip
                                  go_enter Try.func12, Try.ntmps12
                                  go_wp2_with (first | (go_at_call 20; refine (has_any _ _ _ F0.out FM.out (by first | exact .inr (.inr (.inl rfl)) | exact .inr (.inr (.inr (.inl rfl))) | exact .inr (.inr (.inr (.inr rfl))))).mono ?_; rintro e w' ⟨rfl, rfl⟩) | (go_at_call 25; refine (bare_any _ _ (by omega)).mono ?_; rintro e w' ⟨rfl, rfl⟩))
                                  go_ret
                                  exact ⟨ans_mk rfl (⟨fun _ => (rright_iff t e n c v o x m f).2 ⟨(by have := HC0.out; omega), (by have := HC1.out; omega), (by have := HC2.out; omega), (by have := HC3.out; omega), (by have := HC4.out; omega), (by have := HC5.out; omega), (by have := HC6.out; omega), (by have := HC7.out; omega), HM.out, (by have := HE.out; omega), .inl h4, hbn, hbc, .inr HS8.out, .inl h16⟩, fun _ => rfl⟩), (Below.refl _ w).alloc (Nat.le_refl _) _⟩
                              · have hi8 : n.toList.isEmpty = false := by simpa using hs8
                                clear hs8
                                go_enter Try.func12, Try.ntmps12
                                go_wp2_with (first | (go_at_call 20; refine (has_any _ _ _ F0.out FM.out (by first | exact .inr (.inr (.inl rfl)) | exact .inr (.inr (.inr (.inl rfl))) | exact .inr (.inr (.inr (.inr rfl))))).mono ?_; rintro e w' ⟨rfl, rfl⟩) | (go_at_call 25; refine (bare_any _ _ (by omega)).mono ?_; rintro e w' ⟨rfl, rfl⟩))
                                go_ret
                                exact ⟨ans_mk rfl (⟨fun h => (by cases h), fun k => (by obtain ⟨a0, a1, a2, a3, a4, a5, a6, a7, a8, a9, a10, a11, a12, a13, a14⟩ := (rright_iff t e n c v o x m f).1 k; rcases a13 with h | h; rw [h8] at h; cases h; rw [h] at hi8; cases hi8)⟩), (Below.refl _ w).alloc (Nat.le_refl _) _⟩
                            · skip
                              cases h16 : hsF f 16
                              · by_cases hs16 : c.toList = []
                                · have HS16 := Lib.hid hs16
                                  have hi16 : c.toList.isEmpty = true := by rw [hs16]; rfl
                                  clear hs16
                                  go_enter Try.func12, Try.ntmps12
                                  go_wp2_with (first | (go_at_call 20; refine (has_any _ _ _ F0.out FM.out (by first | exact .inr (.inr (.inl rfl)) | exact .inr (.inr (.inr (.inl rfl))) | exact .inr (.inr (.inr (.inr rfl))))).mono ?_; rintro e w' ⟨rfl, rfl⟩) | (go_at_call 25; refine (bare_any _ _ (by omega)).mono ?_; rintro e w' ⟨rfl, rfl⟩))
                                  go_ret
                                  exact ⟨ans_mk rfl (⟨fun _ => (rright_iff t e n c v o x m f).2 ⟨(by have := HC0.out; omega), (by have := HC1.out; omega), (by have := HC2.out; omega), (by have := HC3.out; omega), (by have := HC4.out; omega), (by have := HC5.out; omega), (by have := HC6.out; omega), (by have := HC7.out; omega), HM.out, (by have := HE.out; omega), .inl h4, hbn, hbc, .inl h8, .inr HS16.out⟩, fun _ => rfl⟩), (Below.refl _ w).alloc (Nat.le_refl _) _⟩
                                · have hi16 : c.toList.isEmpty = false := by simpa using hs16
                                  clear hs16
                                  go_enter Try.func12, Try.ntmps12
                                  go_wp2_with (first | (go_at_call 20; refine (has_any _ _ _ F0.out FM.out (by first | exact .inr (.inr (.inl rfl)) | exact .inr (.inr (.inr (.inl rfl))) | exact .inr (.inr (.inr (.inr rfl))))).mono ?_; rintro e w' ⟨rfl, rfl⟩) | (go_at_call 25; refine (bare_any _ _ (by omega)).mono ?_; rintro e w' ⟨rfl, rfl⟩))
                                  go_ret
                                  exact ⟨ans_mk rfl (⟨fun h => (by cases h), fun k => (by obtain ⟨a0, a1, a2, a3, a4, a5, a6, a7, a8, a9, a10, a11, a12, a13, a14⟩ := (rright_iff t e n c v o x m f).1 k; rcases a14 with h | h; rw [h16] at h; cases h; rw [h] at hi16; cases hi16)⟩), (Below.refl _ w).alloc (Nat.le_refl _) _⟩
                              · skip
                                go_enter Try.func12, Try.ntmps12
                                go_wp2_with (first | (go_at_call 20; refine (has_any _ _ _ F0.out FM.out (by first | exact .inr (.inr (.inl rfl)) | exact .inr (.inr (.inr (.inl rfl))) | exact .inr (.inr (.inr (.inr rfl))))).mono ?_; rintro e w' ⟨rfl, rfl⟩) | (go_at_call 25; refine (bare_any _ _ (by omega)).mono ?_; rintro e w' ⟨rfl, rfl⟩))
                                go_ret
                                exact ⟨ans_mk rfl (⟨fun _ => (rright_iff t e n c v o x m f).2 ⟨(by have := HC0.out; omega), (by have := HC1.out; omega), (by have := HC2.out; omega), (by have := HC3.out; omega), (by have := HC4.out; omega), (by have := HC5.out; omega), (by have := HC6.out; omega), (by have := HC7.out; omega), HM.out, (by have := HE.out; omega), .inl h4, hbn, hbc, .inl h8, .inl h16⟩, fun _ => rfl⟩), (Below.refl _ w).alloc (Nat.le_refl _) _⟩
                          · go_enter Try.func12, Try.ntmps12
                            go_wp2_with (first | (go_at_call 20; refine (has_any _ _ _ F0.out FM.out (by first | exact .inr (.inr (.inl rfl)) | exact .inr (.inr (.inr (.inl rfl))) | exact .inr (.inr (.inr (.inr rfl))))).mono ?_; rintro e w' ⟨rfl, rfl⟩) | (go_at_call 25; refine (bare_any _ _ (by omega)).mono ?_; rintro e w' ⟨rfl, rfl⟩))
                            go_ret
                            exact ⟨ans_mk rfl (⟨fun h => (by cases h), fun k => (by obtain ⟨a0, a1, a2, a3, a4, a5, a6, a7, a8, a9, a10, a11, a12, a13, a14⟩ := (rright_iff t e n c v o x m f).1 k; rw [a12] at hbc; cases hbc)⟩), (Below.refl _ w).alloc (Nat.le_refl _) _⟩
                        · go_enter Try.func12, Try.ntmps12
                          go_wp2_with (first | (go_at_call 20; refine (has_any _ _ _ F0.out FM.out (by first | exact .inr (.inr (.inl rfl)) | exact .inr (.inr (.inr (.inl rfl))) | exact .inr (.inr (.inr (.inr rfl))))).mono ?_; rintro e w' ⟨rfl, rfl⟩) | (go_at_call 25; refine (bare_any _ _ (by omega)).mono ?_; rintro e w' ⟨rfl, rfl⟩))
                          go_ret
                          exact ⟨ans_mk rfl (⟨fun h => (by cases h), fun k => (by obtain ⟨a0, a1, a2, a3, a4, a5, a6, a7, a8, a9, a10, a11, a12, a13, a14⟩ := (rright_iff t e n c v o x m f).1 k; rw [a11] at hbn; cases hbn)⟩), (Below.refl _ w).alloc (Nat.le_refl _) _⟩
                  · have HM := Lib.hid hm
                    have hm' : (f % 4 != 0) = true := by simpa using hm
                    go_enter Try.func12, Try.ntmps12
                    go_wp2_with (first | (go_at_call 20; refine (has_any _ _ _ F0.out FM.out (by first | exact .inr (.inr (.inl rfl)) | exact .inr (.inr (.inr (.inl rfl))) | exact .inr (.inr (.inr (.inr rfl))))).mono ?_; rintro e w' ⟨rfl, rfl⟩) | (go_at_call 25; refine (bare_any _ _ (by omega)).mono ?_; rintro e w' ⟨rfl, rfl⟩))
                    go_ret
                    exact ⟨ans_mk rfl (⟨fun h => (by cases h), fun k => (by obtain ⟨a0, a1, a2, a3, a4, a5, a6, a7, a8, a9, a10, a11, a12, a13, a14⟩ := (rright_iff t e n c v o x m f).1 k; exact absurd a8 HM.out)⟩), (Below.refl _ w).alloc (Nat.le_refl _) _⟩
end Go.Proofs.Ytgilfjojimgpaaa.Qf
