/-
  gzhead's cursor: its methods, called with a cursor within its text: their results, the cursor behind them; of what was there only the cursor has changed.
  Conditions: as each theorem says.
-/
import Derived.Test.YtgilfjojimgpaaaQe
import Derived.Test.YtgilfjojimgpaaaVx
import Derived.Test.YtgilfjojimgpaaaVt
import Derived.StillTailTactics
namespace Go.Proofs.Ytgilfjojimgpaaa.Qh
open Go.RowKit Go.Proofs.Ytgilfjojimgpaaa.Vm Go.Proofs.Ytgilfjojimgpaaa.Vo Go.Proofs.Ytgilfjojimgpaaa.Vf Go.Proofs.Ytgilfjojimgpaaa.Bw Go.Proofs.Ytgilfjojimgpaaa.Bm Go.Proofs.Ytgilfjojimgpaaa.Qm Go.Proofs.Ytgilfjojimgpaaa.Qa Go.Proofs.Ytgilfjojimgpaaa.Qb Go.Proofs.Ytgilfjojimgpaaa.Qc Go.Proofs.Ytgilfjojimgpaaa.Qd Go.Proofs.Ytgilfjojimgpaaa.Qe

/-- A cursor: its text, its place, its flags, its error. -/
def cu (w : World) (g : Nat) (s : ByteArray) (a : Nat) (f : Int) (e : Int) : Prop := Blk w g 48 #[.string s, .int .i64 a, .int .i64 f, .int .i64 e]
/-- Only block g has changed. -/
def At (g : Nat) (k : Nat) : Prop := k = g
section
variable {w w' : World} {g : Nat} {s : ByteArray} {a : Nat} {f e : Int}
theorem cu.c0 (h : cu w g s a f e) : w.cell? ⟨g, 0, none⟩ = some (.string s) := Blk.cell h 0
theorem cu.c1 (h : cu w g s a f e) : w.cell? ⟨g, 1, none⟩ = some (.int .i64 a) := Blk.cell h 1
theorem cu.c2 (h : cu w g s a f e) : w.cell? ⟨g, 2, none⟩ = some (.int .i64 f) := Blk.cell h 2
theorem cu.c3 (h : cu w g s a f e) : w.cell? ⟨g, 3, none⟩ = some (.int .i64 e) := Blk.cell h 3
theorem cu.f1 (h : cu w g s a f e) : w.frozen? ⟨g, 1, none⟩ = false := Blk.frozen h 1
theorem cu.f3 (h : cu w g s a f e) : w.frozen? ⟨g, 3, none⟩ = false := Blk.frozen h 3
theorem cu.lt (h : cu w g s a f e) : g < w.heap.size := Blk.lt h
theorem cu.below (h : cu w g s a f e) (k : Below w.heap.size w w') : cu w' g s a f e := Blk.below h k
theorem cu.only {S : Nat → Prop} (h : cu w g s a f e) (k : Only S w w') (hg : ¬ S g) : cu w' g s a f e := Blk.only h k hg
theorem cu.err (h : cu w g s a f e) (e' : Int) : cu (w.setCell ⟨g, 3, none⟩ (.int .i64 e')) g s a f e' := Blk.store h 3 _
theorem cu.move (h : cu w g s a f e) {x : Int} {b : Nat} (hx : x = (b : Int)) : cu (w.setCell ⟨g, 1, none⟩ (.int .i64 x)) g s b f e := by
  subst hx; exact Blk.store h 1 _
end
theorem only_set {g : Nat} {w : World} (j : Nat) (u : Value) : Only (At g) w (w.setCell ⟨g, j, none⟩ u) := (Only.refl (At g) w).store (p := ⟨g, j, none⟩) (.inl (show At g g from rfl)) u
theorem Only.put {g : Nat} {w u : World} (h : Only (At g) w u) (j : Nat) (x : Value) : Only (At g) w (u.setCell ⟨g, j, none⟩ x) := h.store (p := ⟨g, j, none⟩) (.inl (show At g g from rfl)) x
theorem cu.drew {w : World} {g : Nat} {s : ByteArray} {a : Nat} {f e : Int} (h : cu w g s a f e) : cu w.drew g s a f e := h

/-- What number answers: the number, the place and the error behind it. -/
def nuR (l : List UInt8) (a : Nat) (e : Int) (k : Nat) : Int × Nat × Int :=
  if e ≠ 0 then (0, a, e) else if l.length - a < k then (0, a, 2) else (((num ((l.drop a).take k) : Nat) : Int), a + k, 0)
/-- The bytes of a number from a place on, as a list's number. -/
theorem num_eq (s : ByteArray) : ∀ (k a : Nat), a + k ≤ s.size → Vn.num s a k = num ((s.data.toList.drop a).take k)
  | 0, a, _ => by simp [Vn.num, num]
  | k + 1, a, h => by
    rw [Vx.num_head, num_eq s k (a + 1) (by omega), drop_at s (show a < s.size by omega), List.take_succ_cons]
    show (PlainAid.bt s a).toNat + _ = _
    unfold PlainAid.bt
    rw [dif_pos (show a < s.size by omega)]
    rfl
theorem numR_read {s : ByteArray} {a k : Nat} (hk : k = 1 ∨ k = 2 ∨ k = 4) (hl : a + k ≤ s.size) : Vn.numR s (a : Int) (k : Int) = (((num ((s.data.toList.drop a).take k) : Nat) : Int), 0) := by
  have hw : Vw.wid (k : Int) = true := by rcases hk with rfl | rfl | rfl <;> rfl
  have h4 : 256 ^ k ≤ 4294967296 := by rcases hk with rfl | rfl | rfl <;> decide
  rw [← num_eq s k a hl]
  exact Vn.numR_ok hw hl (by have := Vn.num_lt s a k; omega)
theorem numR_none {s : ByteArray} {a k : Nat} (hk : k = 1 ∨ k = 2 ∨ k = 4) (hl : s.size < a + k) (_ha : a ≤ s.size) : Vn.numR s (a : Int) (k : Int) = (0, 2) := by
  have hw : Vw.wid (k : Int) = true := by rcases hk with rfl | rfl | rfl <;> rfl
  have h1 : (s.size : Int) - (a : Int) < (k : Int) := by omega
  have h2 : ¬ (a : Int) < 0 := by omega
  simp [Vn.numR, hw, h1, h2]
theorem len_eq (s : ByteArray) : s.data.toList.length = s.size := by rw [Array.length_toList]; rfl

set_option maxRecDepth 100000 in
theorem number_any {w : World} {g : Nat} {s : ByteArray} {a : Nat} {f e : Int} (k : Nat) (h : cu w g s a f e) (hk : k = 1 ∨ k = 2 ∨ k = 4) (hs : s.size ≤ 281474976710656) (ha : a ≤ s.size) :
    Calls Try.prog 27 #[.pointer (some ⟨g, 0, none⟩), .int .i64 (k : Int)] w fun e' w' => e' = .returned (.int .i64 (nuR s.data.toList a e k).1) ∧ cu w' g s (nuR s.data.toList a e k).2.1 f (nuR s.data.toList a e k).2.2 ∧ Only (At g) w w' := by
  have c0 := h.c0; have c1 := h.c1; have c3 := h.c3; have f1 := h.f1; have f3 := h.f3
  have HH := Lib.hid h
  have hk4 : k ≤ 4 := by omega
  by_cases h0 : e = 0
  · subst h0
    have HC := Lib.hid (Vn.Number_any s (a : Int) (k : Int) · (by omega) (by omega))
    by_cases hl : s.size < a + k
    · have H : Hid (nuR s.data.toList a 0 k = (0, a, 2)) := Lib.hid (by unfold nuR; rw [if_neg (by simp), if_pos (by rw [len_eq]; omega)])
      rw [numR_none hk hl ha] at HC
      clear hk h
      go_enter Try.func27, Try.ntmps27
      go_wp2_with fail
      go_region_held3 (fun u => u.cell? ⟨g, 0, none⟩ = some (.string s) ∧ u.cell? ⟨g, 1, none⟩ = some (.int .i64 a) ∧ cu u g s a f 0 ∧ Only (At g) w u)
        (first | exact ⟨c0, c1, HH.out.drew, (Only.refl _ w).drew⟩ | assumption)
        (first | (go_at_call 40; refine (HC.out _).mono ?_; rintro e w' ⟨rfl, rfl⟩))
      obtain ⟨d0, d1, D, O⟩ := (show _ ∧ _ ∧ cu _ g s a f 0 ∧ Only (At g) w _ by assumption)
      have HD := Lib.hid D; have HO := Lib.hid O
      clear c0 c1 c3 f1 f3
      have c1 := D.c1; have c3 := D.c3; have f1 := D.f1; have f3 := D.f3
      clear d0 d1 D O
      go_wp2
      go_ret
      exact ⟨ret_i64 (by rw [H.out]), by rw [H.out]; exact HD.out.err 2, Only.put HO.out 3 _⟩
    · have hl' : a + k ≤ s.size := by omega
      have H : Hid (nuR s.data.toList a 0 k = (((num ((s.data.toList.drop a).take k) : Nat) : Int), a + k, 0)) := Lib.hid (by unfold nuR; rw [if_neg (by simp), if_neg (by rw [len_eq]; omega)])
      rw [numR_read hk hl'] at HC
      generalize num ((s.data.toList.drop a).take k) = N at *
      clear hk h
      go_enter Try.func27, Try.ntmps27
      go_wp2_with fail
      go_region_held3 (fun u => u.cell? ⟨g, 0, none⟩ = some (.string s) ∧ u.cell? ⟨g, 1, none⟩ = some (.int .i64 a) ∧ cu u g s a f 0 ∧ Only (At g) w u)
        (first | exact ⟨c0, c1, HH.out.drew, (Only.refl _ w).drew⟩ | assumption)
        (first | (go_at_call 40; refine (HC.out _).mono ?_; rintro e w' ⟨rfl, rfl⟩))
      obtain ⟨d0, d1, D, O⟩ := (show _ ∧ _ ∧ cu _ g s a f 0 ∧ Only (At g) w _ by assumption)
      have HD := Lib.hid D; have HO := Lib.hid O
      clear c0 c1 c3 f1 f3
      have c1 := D.c1; have c3 := D.c3; have f1 := D.f1; have f3 := D.f3
      clear d0 d1 D O
      go_wp2
      go_ret
      exact ⟨ret_i64 (by rw [H.out]), by rw [H.out]; exact HD.out.move (by push_cast; rfl), Only.put HO.out 1 _⟩
  · have H : Hid (nuR s.data.toList a e k = (0, a, e)) := Lib.hid (by unfold nuR; rw [if_pos h0])
    have hne : (e != 0) = true := by simpa using h0
    clear h0 hk h
    go_enter Try.func27, Try.ntmps27
    go_wp2
    go_ret
    exact ⟨ret_i64 (by rw [H.out]), by rw [H.out]; exact HH.out, Only.refl _ _⟩
end Go.Proofs.Ytgilfjojimgpaaa.Qh
