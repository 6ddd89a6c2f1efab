/-
  gzhead's cursor: take, sized, zeroEnded, field, sum.
  Conditions: as each theorem says.
-/
import Derived.Test.YtgilfjojimgpaaaQh
namespace Go.Proofs.Ytgilfjojimgpaaa.Qi
open Go.RowKit Go.Proofs.Ytgilfjojimgpaaa.Vm Go.Proofs.Ytgilfjojimgpaaa.Vo Go.Proofs.Ytgilfjojimgpaaa.Vf Go.Proofs.Ytgilfjojimgpaaa.Bw Go.Proofs.Ytgilfjojimgpaaa.Bm Go.Proofs.Ytgilfjojimgpaaa.Qm Go.Proofs.Ytgilfjojimgpaaa.Qa Go.Proofs.Ytgilfjojimgpaaa.Qb Go.Proofs.Ytgilfjojimgpaaa.Qc Go.Proofs.Ytgilfjojimgpaaa.Qd Go.Proofs.Ytgilfjojimgpaaa.Qe Go.Proofs.Ytgilfjojimgpaaa.Qh

/-- A string that is returned, the cursor behind it. -/
def gave (g : Nat) (s : ByteArray) (f : Int) (w : World) (r : List UInt8 × Nat × Int) (e' : Ending) (w' : World) : Prop :=
  ∃ x : ByteArray, e' = .returned (.string x) ∧ x.data.toList = r.1 ∧ cu w' g s r.2.1 f r.2.2 ∧ Only (At g) w w'
theorem gave.mk {g : Nat} {s : ByteArray} {f : Int} {w w' : World} {r : List UInt8 × Nat × Int} {x : ByteArray} {e' : Ending} (h0 : e' = .returned (.string x)) (h1 : x.data.toList = r.1) (h2 : cu w' g s r.2.1 f r.2.2) (h3 : Only (At g) w w') : gave g s f w r e' w' := ⟨x, h0, h1, h2, h3⟩

theorem cut_mid {S : ByteArray} {a n : Nat} {z : Int} (h : a + n ≤ S.size) (hz : z = ((a + n : Nat) : Int)) (u : World) : (Instr.slice 9 (.string S) (some (.int .i64 (a : Int))) (some (.int .i64 z)) none).run Try.prog u = .ok (.string (S.extract a (a + n))) u := by
  subst hz
  go_simp
  rw [if_pos ⟨by omega, by omega⟩, if_pos (by omega), show ((a : Int) + (n : Int)).toNat = a + n by omega]
theorem keepc {w a b : World} {g : Nat} {s : ByteArray} {x : Nat} {f e : Int} {v0 v1 : Value} (hb : Below a.heap.size a b) (h : a.cell? ⟨g, 0, none⟩ = some v0 ∧ a.cell? ⟨g, 1, none⟩ = some v1 ∧ cu a g s x f e ∧ Only (At g) w a) :
    b.cell? ⟨g, 0, none⟩ = some v0 ∧ b.cell? ⟨g, 1, none⟩ = some v1 ∧ cu b g s x f e ∧ Only (At g) w b :=
  ⟨Qd.cell_later h.1 hb, Qd.cell_later h.2.1 hb, h.2.2.1.below hb, h.2.2.2.trans (Only.of_below hb)⟩
section
variable {w : World} {g : Nat} {s : ByteArray} {a : Nat} {f e : Int}
set_option maxRecDepth 100000 in
theorem take_any {n : Nat} (h : cu w g s a f e) (hs : s.size ≤ 281474976710656) (ha : a + n ≤ s.size) :
    Calls Try.prog 41 #[.pointer (some ⟨g, 0, none⟩), .int .i64 (n : Int)] w (gave g s f w ((s.data.toList.drop a).take n, a + n, e)) := by
  have c0 := h.c0; have c1 := h.c1; have f1 := h.f1
  have h2 := h.move (x := (a : Int) + (n : Int)) (b := a + n) (by push_cast; rfl)
  have HX := Lib.hid (show (s.extract a (a + n)).data.toList = (s.data.toList.drop a).take n by rw [ext_list]; congr 1; omega)
  have b1 : (0 : Int) ≤ (a : Int) := by omega
  have b2 : (a : Int) ≤ (a : Int) + (n : Int) := by omega
  have b3 : (a : Int) + (n : Int) ≤ (s.size : Int) := by omega
  have HC := Lib.hid (fun u => Vt.Clone_any (s.extract a (a + n)) u (by rw [ByteArray.size_extract]; omega))
  have hsl : ∀ u, (Instr.slice 9 (.string s) (some (.int .i64 (a : Int))) (some (.int .i64 ((a : Int) + (n : Int)))) none).run Try.prog u = .ok (.string (s.extract a (a + n))) u := fun u => cut_mid (by omega) (by push_cast; rfl) u
  obtain ⟨w1, hw1⟩ : ∃ w1, w1 = w.setCell ⟨g, 1, none⟩ (.int .i64 ((a : Int) + (n : Int))) := ⟨_, rfl⟩
  rw [← hw1] at h2
  have H2 := Lib.hid h2
  have HO : Hid (Only (At g) w w1) := Lib.hid (by rw [hw1]; exact only_set 1 _)
  clear h h2
  go_enter Try.func41, Try.ntmps41
  go_wp2_with fail
  rw [← hw1]
  have c0 := H2.out.c0; have c1 := H2.out.c1
  clear hw1
  go_region_held3 (fun u => u.cell? ⟨g, 0, none⟩ = some (.string s) ∧ u.cell? ⟨g, 1, none⟩ = some (.int .i64 ((a + n : Nat) : Int)) ∧ cu u g s (a + n) f e ∧ Only (At g) w u)
    (first | exact ⟨c0, c1, H2.out.drew, HO.out.drew⟩ | assumption | (apply keepc; assumption; assumption))
    (first | (go_at_call 48; refine (HC.out _).mono ?_; rintro e w' ⟨rfl, hb⟩))
  obtain ⟨d0, d1, D, O⟩ := (show _ ∧ _ ∧ cu _ g s (a + n) f e ∧ Only (At g) w _ by assumption)
  go_wp2
  go_ret
  exact gave.mk rfl HX.out D O

/-- What sized answers. -/
def szR (l : List UInt8) (a : Nat) : List UInt8 × Nat × Int :=
  if l.length - a < 2 then ([], a, 2) else if l.length - (a + 2) < num ((l.drop a).take 2) then ([], a + 2, 2) else ((l.drop (a + 2)).take (num ((l.drop a).take 2)), a + 2 + num ((l.drop a).take 2), 0)
set_option maxRecDepth 100000 in
theorem sized_any (h : cu w g s a f 0) (hs : s.size ≤ 281474976710656) (ha : a ≤ s.size) :
    Calls Try.prog 29 #[.pointer (some ⟨g, 0, none⟩)] w (gave g s f w (szR s.data.toList a)) := by
  have HN := Lib.hid (number_any 2 h (.inr (.inl rfl)) hs ha)
  have hle := len_eq s
  by_cases h2 : s.size < a + 2
  · rw [show nuR s.data.toList a 0 2 = (0, a, 2) by unfold nuR; rw [if_neg (by simp), if_pos (by omega)]] at HN
    have HZ := Lib.hid (show szR s.data.toList a = ([], a, 2) by unfold szR; rw [if_pos (by omega)])
    clear h h2 hle
    go_enter Try.func29, Try.ntmps29
    go_wp2_with fail
    refine HN.out.mono ?_
    rintro e' w1 ⟨rfl, D, O⟩
    have c0 := D.c0; have c1 := D.c1
    have HD := Lib.hid D; have HO := Lib.hid O
    clear D O
    have q1 : IntKind.i64.wrap ((s.size : Int) - (a : Int)) = (s.size : Int) - (a : Int) := by rw [IntWalk.i64_left]; exact IntWalk.wrap64_in _ ⟨by omega, by omega⟩
    have q2 : ¬ (s.size : Int) - (a : Int) < 0 := by omega
    go_wp2_with fail
    go_region_held3 (fun u => u.cell? ⟨g, 0, none⟩ = some (.string s) ∧ u.cell? ⟨g, 1, none⟩ = some (.int .i64 (a : Int)) ∧ cu u g s a f 2 ∧ Only (At g) w u)
      (first | exact ⟨c0, c1, HD.out.drew, HO.out.drew⟩ | assumption)
      (fail)
    obtain ⟨d0, d1, D, O⟩ := (show _ ∧ _ ∧ cu _ g s a f 2 ∧ Only (At g) w _ by assumption)
    have HD := Lib.hid D; have HO := Lib.hid O
    clear D O
    go_wp2_with (go_at_call 41; refine (take_any (n := 0) HD.out hs (by omega)).mono ?_; rintro e' w2 ⟨x, rfl, hx, D2, O2⟩)
    go_ret
    exact gave.mk rfl (by rw [HZ.out]; exact hx) (by rw [HZ.out]; exact D2) (HO.out.trans O2)
  · obtain ⟨N, hN⟩ : ∃ N, N = num ((s.data.toList.drop a).take 2) := ⟨_, rfl⟩
    have hN16 : N < 65536 := by
      rw [hN]
      have := num_lt ((s.data.toList.drop a).take 2)
      rw [show ((s.data.toList.drop a).take 2).length = 2 by rw [List.length_take, List.length_drop]; omega] at this
      exact this
    rw [show nuR s.data.toList a 0 2 = ((N : Int), a + 2, 0) by unfold nuR; rw [if_neg (by simp), if_neg (by omega), hN]] at HN
    obtain ⟨b, hb⟩ : ∃ b, b = a + 2 := ⟨_, rfl⟩
    have HZE : szR s.data.toList a = if s.data.toList.length - b < N then ([], b, 2) else ((s.data.toList.drop b).take N, b + N, 0) := by unfold szR; rw [if_neg (by omega), hN, hb]
    rw [← hb] at HN
    have hb2 : b ≤ s.size := by omega
    have q1 : IntKind.i64.wrap ((s.size : Int) - (b : Int)) = (s.size : Int) - (b : Int) := by rw [IntWalk.i64_left]; exact IntWalk.wrap64_in _ ⟨by omega, by omega⟩
    by_cases h3 : s.size - b < N
    · have HZ := Lib.hid (show szR s.data.toList a = ([], b, 2) by rw [HZE, if_pos (by omega)])
      have q2 : (s.size : Int) - (b : Int) < (N : Int) := by omega
      clear h hle hN h3 h2 hb HZE
      go_enter Try.func29, Try.ntmps29
      go_wp2_with fail
      refine HN.out.mono ?_
      rintro e' w1 ⟨rfl, D, O⟩
      have c0 := D.c0; have c1 := D.c1
      have HD := Lib.hid D; have HO := Lib.hid O
      clear D O
      go_wp2_with fail
      go_region_held3 (fun u => u.cell? ⟨g, 0, none⟩ = some (.string s) ∧ u.cell? ⟨g, 1, none⟩ = some (.int .i64 (b : Int)) ∧ cu u g s b f 0 ∧ Only (At g) w u)
        (first | exact ⟨c0, c1, HD.out.drew, HO.out.drew⟩ | assumption)
        (fail)
      obtain ⟨d0, d1, D, O⟩ := (show _ ∧ _ ∧ cu _ g s b f 0 ∧ Only (At g) w _ by assumption)
      have HD := Lib.hid D; have HO := Lib.hid O
      have c3 := D.c3; have f3 := D.f3
      clear D O
      go_wp2
      go_ret
      exact gave.mk rfl (by rw [HZ.out]) (by rw [HZ.out]; exact HD.out.err 2) (Only.put HO.out 3 _)
    · have HZ := Lib.hid (show szR s.data.toList a = ((s.data.toList.drop b).take N, b + N, 0) by rw [HZE, if_neg (by omega)])
      have q2 : ¬ (s.size : Int) - (b : Int) < (N : Int) := by omega
      have hfit : b + N ≤ s.size := by omega
      clear h hle hN h3 h2 hb HZE
      go_enter Try.func29, Try.ntmps29
      go_wp2_with fail
      refine HN.out.mono ?_
      rintro e' w1 ⟨rfl, D, O⟩
      have c0 := D.c0; have c1 := D.c1
      have HD := Lib.hid D; have HO := Lib.hid O
      clear D O
      go_wp2_with fail
      go_region_held3 (fun u => u.cell? ⟨g, 0, none⟩ = some (.string s) ∧ u.cell? ⟨g, 1, none⟩ = some (.int .i64 (b : Int)) ∧ cu u g s b f 0 ∧ Only (At g) w u)
        (first | exact ⟨c0, c1, HD.out.drew, HO.out.drew⟩ | assumption)
        (fail)
      obtain ⟨d0, d1, D, O⟩ := (show _ ∧ _ ∧ cu _ g s b f 0 ∧ Only (At g) w _ by assumption)
      have HD := Lib.hid D; have HO := Lib.hid O
      clear D O
      go_wp2_with (go_at_call 41; refine (take_any (n := N) HD.out hs hfit).mono ?_; rintro e' w2 ⟨x, rfl, hx, D2, O2⟩)
      go_ret
      exact gave.mk rfl (by rw [HZ.out]; exact hx) (by rw [HZ.out]; exact D2) (HO.out.trans O2)
end
end Go.Proofs.Ytgilfjojimgpaaa.Qi
