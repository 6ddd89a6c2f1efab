/-
  gzhead's cursor: zeroEnded, field, sum.
  Conditions: as each theorem says.
-/
import Derived.Test.YtgilfjojimgpaaaQi
namespace Go.Proofs.Ytgilfjojimgpaaa.Qj
open Go.RowKit Go.Proofs.Ytgilfjojimgpaaa.Vm Go.Proofs.Ytgilfjojimgpaaa.Vo Go.Proofs.Ytgilfjojimgpaaa.Vf Go.Proofs.Ytgilfjojimgpaaa.Bw Go.Proofs.Ytgilfjojimgpaaa.Bm Go.Proofs.Ytgilfjojimgpaaa.Qm Go.Proofs.Ytgilfjojimgpaaa.Qa Go.Proofs.Ytgilfjojimgpaaa.Qb Go.Proofs.Ytgilfjojimgpaaa.Qc Go.Proofs.Ytgilfjojimgpaaa.Qd Go.Proofs.Ytgilfjojimgpaaa.Qe Go.Proofs.Ytgilfjojimgpaaa.Qh Go.Proofs.Ytgilfjojimgpaaa.Qi

theorem cut_high {S : ByteArray} {k : Nat} (h : k ≤ S.size) (u : World) : (Instr.slice 9 (.string S) (some (.int .i64 (k : Int))) none none).run Try.prog u = .ok (.string (S.extract k S.size)) u := by
  have g1 : ¬ S.size < k := by omega
  go_simp
theorem high_list (s : ByteArray) (a : Nat) : (s.extract a s.size).data.toList = s.data.toList.drop a := by
  rw [ext_list, List.take_of_length_le]
  rw [List.length_drop, len_eq]
  exact Nat.le_refl _
/-- What zeroEnded answers. -/
def zeR (l : List UInt8) (a : Nat) : List UInt8 × Nat × Int :=
  match endQ (l.drop a) with
  | none => ([], a, 2)
  | some (t, _) => (t, a + t.length + 1, 0)
section
variable {w : World} {g : Nat} {s : ByteArray} {a : Nat} {f e : Int}
set_option maxRecDepth 100000 in
theorem zero_any (h : cu w g s a f 0) (hs : s.size ≤ 281474976710656) (ha : a ≤ s.size) :
    Calls Try.prog 30 #[.pointer (some ⟨g, 0, none⟩)] w (gave g s f w (zeR s.data.toList a)) := by
  have hsl := cut_high (S := s) (k := a) ha
  have c0 := h.c0; have c1 := h.c1
  have HH := Lib.hid h
  have HI := Lib.hid (fun u => IndexByte_any (s.extract a s.size) u)
  rcases ix_end (s.data.toList.drop a) with ⟨h1, h2⟩ | ⟨t, r, h1, h2, h3⟩
  · rw [high_list, h2] at HI
    have HZ := Lib.hid (show zeR s.data.toList a = ([], a, 2) by unfold zeR; rw [h1])
    generalize s.extract a s.size = S at *
    clear h h1 h2
    go_enter Try.func30, Try.ntmps30
    go_wp2_with fail
    go_region_held3 (fun u => u.cell? ⟨g, 0, none⟩ = some (.string s) ∧ u.cell? ⟨g, 1, none⟩ = some (.int .i64 (a : Int)) ∧ cu u g s a f 0 ∧ Only (At g) w u)
      (first | exact ⟨c0, c1, HH.out.drew, (Only.refl _ w).drew⟩ | assumption)
      (first | (go_at_call 38; refine (HI.out _).mono ?_; rintro e w' ⟨rfl, rfl⟩))
    obtain ⟨d0, d1, D, O⟩ := (show _ ∧ _ ∧ cu _ g s a f 0 ∧ Only (At g) w _ by assumption)
    have HD := Lib.hid D; have HO := Lib.hid O
    have c3 := D.c3; have f3 := D.f3
    clear D O
    go_wp2
    go_ret
    exact gave.mk rfl (by rw [HZ.out]) (by rw [HZ.out]; exact HD.out.err 2) (Only.put HO.out 3 _)
  · rw [high_list, h2] at HI
    have hl : a + t.length + 1 ≤ s.size := by
      have := congrArg List.length h3
      rw [List.length_drop, len_eq, List.length_append, List.length_cons] at this
      omega
    have HT := Lib.hid (show (s.data.toList.drop a).take t.length = t by rw [h3, List.take_left' rfl])
    obtain ⟨n, hn⟩ : ∃ n, n = t.length := ⟨_, rfl⟩
    rw [← hn] at HI hl HT
    obtain ⟨b, hb⟩ : ∃ b, b = a + n := ⟨_, rfl⟩
    have HZ := Lib.hid (show zeR s.data.toList a = (t, b + 1, 0) by unfold zeR; rw [h1, hb, hn])
    have hn0 : ¬ (n : Int) < 0 := by omega
    have hb1 : b ≤ s.size := by omega
    have HB := Lib.hid hb
    generalize s.extract a s.size = S at *
    clear h h1 h2 h3 hn hb
    go_enter Try.func30, Try.ntmps30
    go_wp2_with fail
    go_region_held3 (fun u => u.cell? ⟨g, 0, none⟩ = some (.string s) ∧ u.cell? ⟨g, 1, none⟩ = some (.int .i64 (a : Int)) ∧ cu u g s a f 0 ∧ Only (At g) w u)
      (first | exact ⟨c0, c1, HH.out.drew, (Only.refl _ w).drew⟩ | assumption)
      (first | (go_at_call 38; refine (HI.out _).mono ?_; rintro e w' ⟨rfl, rfl⟩))
    obtain ⟨d0, d1, D, O⟩ := (show _ ∧ _ ∧ cu _ g s a f 0 ∧ Only (At g) w _ by assumption)
    have HD := Lib.hid D; have HO := Lib.hid O
    clear D O
    go_wp2_with fail
    refine (take_any (n := n) HD.out hs (by omega)).mono ?_
    rintro e' w2 ⟨x, rfl, hx, D2, O2⟩
    rw [← HB.out] at D2
    have c1 := D2.c1; have f1 := D2.f1
    have HX := Lib.hid hx; have HD2 := Lib.hid D2; have HO2 := Lib.hid (HO.out.trans O2)
    clear hx D2 O2
    go_wp2
    go_ret
    exact gave.mk rfl (by rw [HZ.out, HX.out]; exact HT.out) (by rw [HZ.out]; exact HD2.out.move (by push_cast; rfl)) (Only.put HO2.out 1 _)

/-- What field answers: what the flag lets be read. -/
def fiR (z : Int) (_l : List UInt8) (a : Nat) (e : Int) (r : List UInt8 × Nat × Int) : List UInt8 × Nat × Int := if e ≠ 0 ∨ z = 0 then ([], a, e) else r
theorem field_no {k z : Int} {V : Value} (h : cu w g s a f e) (hz : bits .and .i64 f k = z) (r : List UInt8 × Nat × Int) (hno : e ≠ 0 ∨ z = 0) :
    Calls Try.prog 28 #[.pointer (some ⟨g, 0, none⟩), .int .i64 k, V] w (gave g s f w (fiR z s.data.toList a e r)) := by
  have c2 := h.c2; have c3 := h.c3
  have HZ := Lib.hid (show fiR z s.data.toList a e r = ([], a, e) from if_pos hno)
  have HH := Lib.hid h
  clear h
  by_cases he : e = 0
  · have hz0 : z = 0 := hno.resolve_left (fun k => k he)
    subst he; subst hz0
    clear hno
    go_enter Try.func28, Try.ntmps28
    go_wp2
    go_ret
    exact gave.mk rfl (by rw [HZ.out]) (by rw [HZ.out]; exact HH.out) (Only.refl _ _)
  · have hne : (e != 0) = true := by simpa using he
    clear hno he
    go_enter Try.func28, Try.ntmps28
    go_wp2
    go_ret
    exact gave.mk rfl (by rw [HZ.out]) (by rw [HZ.out]; exact HH.out) (Only.refl _ _)
set_option maxRecDepth 100000 in
theorem field_sized (k : Int) {z : Int} (h : cu w g s a f e) (hz : bits .and .i64 f k = z) (hs : s.size ≤ 281474976710656) (ha : a ≤ s.size) :
    Calls Try.prog 28 #[.pointer (some ⟨g, 0, none⟩), .int .i64 k, .func (.func 29) #[.pointer (some ⟨g, 0, none⟩)] #[]] w (gave g s f w (fiR z s.data.toList a e (szR s.data.toList a))) := by
  by_cases hno : e ≠ 0 ∨ z = 0
  · exact field_no h hz _ hno
  · have he : e = 0 := Decidable.not_not.1 (fun k => hno (.inl k))
    subst he
    have hz0 : (z == 0) = false := by simpa using fun k => hno (.inr k)
    have HZ := Lib.hid (show fiR z s.data.toList a 0 (szR s.data.toList a) = szR s.data.toList a from if_neg hno)
    have c2 := h.c2; have c3 := h.c3
    have HC := Lib.hid (sized_any h hs ha)
    clear h hno
    go_enter Try.func28, Try.ntmps28
    go_wp2_with (go_at_call 29; refine HC.out.mono ?_; rintro e' w' ⟨x, rfl, hx, D, O⟩)
    go_ret
    exact gave.mk rfl (by rw [HZ.out]; exact hx) (by rw [HZ.out]; exact D) O
set_option maxRecDepth 100000 in
theorem field_zero (k : Int) {z : Int} (h : cu w g s a f e) (hz : bits .and .i64 f k = z) (hs : s.size ≤ 281474976710656) (ha : a ≤ s.size) :
    Calls Try.prog 28 #[.pointer (some ⟨g, 0, none⟩), .int .i64 k, .func (.func 30) #[.pointer (some ⟨g, 0, none⟩)] #[]] w (gave g s f w (fiR z s.data.toList a e (zeR s.data.toList a))) := by
  by_cases hno : e ≠ 0 ∨ z = 0
  · exact field_no h hz _ hno
  · have he : e = 0 := Decidable.not_not.1 (fun k => hno (.inl k))
    subst he
    have hz0 : (z == 0) = false := by simpa using fun k => hno (.inr k)
    have HZ := Lib.hid (show fiR z s.data.toList a 0 (zeR s.data.toList a) = zeR s.data.toList a from if_neg hno)
    have c2 := h.c2; have c3 := h.c3
    have HC := Lib.hid (zero_any h hs ha)
    clear h hno
    go_enter Try.func28, Try.ntmps28
    go_wp2_with (go_at_call 30; refine HC.out.mono ?_; rintro e' w' ⟨x, rfl, hx, D, O⟩)
    go_ret
    exact gave.mk rfl (by rw [HZ.out]; exact hx) (by rw [HZ.out]; exact D) O
end
end Go.Proofs.Ytgilfjojimgpaaa.Qj
