/-
  Arguments opened: a head of an archive (nine cells), a case of layer 12 (a head, two strings, an integer).
  Conditions: as each theorem says.
-/
import Derived.Test.YtgilfjojimgpaaaRows
import Derived.WalkKit
import Derived.ProofKit
import Derived.OpenShut
import Derived.Deep.Slices
namespace Go.Proofs.Ytgilfjojimgpaaa.Qy
open Go.ChangeShapes Go.WideShapes Go.ChangeAt Go.RowKit

theorem len9 {α : Type} : ∀ l : List α, l.length = 9 → ∃ a b c d e f g h i, l = [a, b, c, d, e, f, g, h, i]
  | [a, b, c, d, e, f, g, h, i], _ => ⟨a, b, c, d, e, f, g, h, i, rfl⟩
theorem len4 {α : Type} : ∀ l : List α, l.length = 4 → ∃ a b c d, l = [a, b, c, d]
  | [a, b, c, d], _ => ⟨a, b, c, d, rfl⟩
def i64 (z : Int) : Prop := -9223372036854775808 ≤ z ∧ z ≤ 9223372036854775807
theorem i64_of {z : Int} (h : (Lit.int .i64 z).wf = true) : i64 z := by
  simpa [i64, Lit.wf, IntKind.min, IntKind.max, IntKind.signed, IntKind.bits] using h
/-- What is known of a head that came in. -/
structure hdW (t : Int) (e n c : ByteArray) (v o f : Int) : Prop where
  t : i64 t
  e : e.size ≤ maxLen
  n : n.size ≤ maxLen
  c : c.size ≤ maxLen
  v : i64 v
  o : i64 o
  f : i64 f
set_option maxRecDepth 100000 in
theorem trod_hd {H : Type} {enc : TypeId × Value → H} {w : World} {base : Nat} {held : Bool} {fuel : Nat} {cs : List Value} {z : DataW H × List MemPlace} (hl : cs.length = 9)
    (hf : DataW.trod enc Try.prog w base (fun _ => true) held fuel 23 cs = some z) :
    ∃ (t : Int) (e n c : ByteArray) (v o : Int) (x m : Bool) (f : Int), cs = [.int .i64 t, .string e, .string n, .string c, .int .i64 v, .int .i64 o, .bool x, .bool m, .int .i64 f] ∧ hdW t e n c v o f := by
  obtain ⟨ys, k, _, _, _, hlen, hi⟩ := DataW.trod_struct Try.underlying23 hf
  have hcs : Try.prog.cellsOf 9 = 1 := by kernel_rfl
  have hci : Try.prog.cellsOf 3 = 1 := by kernel_rfl
  have hcb : Try.prog.cellsOf 4 = 1 := by kernel_rfl
  obtain ⟨c0, c1, c2, c3, c4, c5, c6, c7, c8, rfl⟩ := len9 cs hl
  obtain ⟨y0, y1, y2, y3, y4, y5, y6, y7, y8, rfl⟩ := len9 ys hlen
  have g0 := hi 0 _ rfl
  have g1 := hi 1 _ rfl
  have g2 := hi 2 _ rfl
  have g3 := hi 3 _ rfl
  have g4 := hi 4 _ rfl
  have g5 := hi 5 _ rfl
  have g6 := hi 6 _ rfl
  have g7 := hi 7 _ rfl
  have g8 := hi 8 _ rfl
  simp [hcs, hci, hcb] at g0 g1 g2 g3 g4 g5 g6 g7 g8
  obtain ⟨t, e0, _, w0⟩ := DataW.trod_int Try.underlying3 g0
  obtain ⟨e, e1, _, w1⟩ := DataW.trod_string Try.underlying9 g1
  obtain ⟨n, e2, _, w2⟩ := DataW.trod_string Try.underlying9 g2
  obtain ⟨c, e3, _, w3⟩ := DataW.trod_string Try.underlying9 g3
  obtain ⟨v, e4, _, w4⟩ := DataW.trod_int Try.underlying3 g4
  obtain ⟨o, e5, _, w5⟩ := DataW.trod_int Try.underlying3 g5
  obtain ⟨x, e6, _⟩ := DataW.trod_bool Try.underlying4 g6
  obtain ⟨m, e7, _⟩ := DataW.trod_bool Try.underlying4 g7
  obtain ⟨f, e8, _, w8⟩ := DataW.trod_int Try.underlying3 g8
  simp at e0 e1 e2 e3 e4 e5 e6 e7 e8
  subst e0; subst e1; subst e2; subst e3; subst e4; subst e5; subst e6; subst e7; subst e8
  exact ⟨t, e, n, c, v, o, x, m, f, rfl, ⟨i64_of w0, w1, w2, w3, i64_of w4, i64_of w5, i64_of w8⟩⟩
set_option maxRecDepth 100000 in
theorem open_hd {H : Type} {enc : TypeId × Value → H} {w : World} {base : Nat} {held : Bool} {v : Value} {d : DataW H} {p : List MemPlace} {r : Reach} {b0 : Nat}
    (hv : Value.okWide Try.prog w r b0 23 v) (h : DataW.Trod enc Try.prog w base (fun _ => true) held 23 v d p) :
    ∃ (t : Int) (e n c : ByteArray) (v' o : Int) (x m : Bool) (f : Int), v = .agg #[.int .i64 t, .string e, .string n, .string c, .int .i64 v', .int .i64 o, .bool x, .bool m, .int .i64 f] ∧ hdW t e n c v' o f := by
  have ht := Try.underlying23
  simp only [Value.okWide, ht] at hv
  obtain ⟨cs, rfl, h2, _⟩ := hv
  obtain ⟨fuel, hf⟩ := h
  have hc : Try.prog.cellsOf 23 = 9 := by kernel_rfl
  rw [hc] at h2
  obtain ⟨l⟩ := cs
  have hl : l.length = 9 := by simpa using h2
  simp only [Value.cells] at hf
  obtain ⟨t, e, n, c, v', o, x, m, f, he, hw⟩ := trod_hd hl hf
  subst he
  exact ⟨t, e, n, c, v', o, x, m, f, rfl, hw⟩
set_option maxRecDepth 100000 in
theorem open_hcase {H : Type} {enc : TypeId × Value → H} {w : World} {base : Nat} {held : Bool} {v : Value} {d : DataW H} {p : List MemPlace} {r : Reach} {b0 : Nat}
    (hv : Value.okWide Try.prog w r b0 33 v) (h : DataW.Trod enc Try.prog w base (fun _ => true) held 33 v d p) :
    ∃ (t : Int) (e n c : ByteArray) (v' o : Int) (x m : Bool) (f : Int) (A C : ByteArray) (k : Int), v = .agg #[.int .i64 t, .string e, .string n, .string c, .int .i64 v', .int .i64 o, .bool x, .bool m, .int .i64 f, .string A, .string C, .int .i64 k] ∧ hdW t e n c v' o f ∧ A.size ≤ maxLen ∧ C.size ≤ maxLen ∧ i64 k := by
  have ht := Try.underlying33
  simp only [Value.okWide, ht] at hv
  obtain ⟨cs, rfl, h2, _⟩ := hv
  obtain ⟨fuel, hf⟩ := h
  have hc12 : Try.prog.cellsOf 33 = 12 := by kernel_rfl
  have hc9 : Try.prog.cellsOf 23 = 9 := by kernel_rfl
  have hcs : Try.prog.cellsOf 9 = 1 := by kernel_rfl
  have hci : Try.prog.cellsOf 3 = 1 := by kernel_rfl
  rw [hc12] at h2
  obtain ⟨l⟩ := cs
  have hl : l.length = 12 := by simpa using h2
  simp only [Value.cells] at hf
  obtain ⟨ys, m, _, _, _, hlen, hi⟩ := DataW.trod_struct ht hf
  obtain ⟨y0, y1, y2, y3, rfl⟩ := len4 ys hlen
  obtain ⟨a0, a1, a2, a3, a4, a5, a6, a7, a8, e9⟩ := len9 (l.take 9) (by rw [List.length_take]; omega)
  obtain ⟨b0', b1, b2, e3⟩ : ∃ a b c, l.drop 9 = [a, b, c] := by
    have h3 : (l.drop 9).length = 3 := by rw [List.length_drop]; omega
    match l.drop 9, h3 with
    | [a, b, c], _ => exact ⟨a, b, c, rfl⟩
  obtain rfl : l = [a0, a1, a2, a3, a4, a5, a6, a7, a8, b0', b1, b2] := by rw [← List.take_append_drop 9 l, e9, e3]; rfl
  have g0 := hi 0 _ rfl
  have g1 := hi 1 _ rfl
  have g2 := hi 2 _ rfl
  have g3 := hi 3 _ rfl
  simp [hcs, hci, hc9] at g0 g1 g2 g3
  obtain ⟨t, e, n, c, v', o, x, m', f, he, hw⟩ := trod_hd rfl g0
  obtain ⟨A, q1, _, w1⟩ := DataW.trod_string Try.underlying9 g1
  obtain ⟨C, q2, _, w2⟩ := DataW.trod_string Try.underlying9 g2
  obtain ⟨k, q3, _, w3⟩ := DataW.trod_int Try.underlying3 g3
  simp at he q1 q2 q3
  obtain ⟨rfl, rfl, rfl, rfl, rfl, rfl, rfl, rfl, rfl⟩ := he
  subst q1; subst q2; subst q3
  exact ⟨t, e, n, c, v', o, x, m', f, A, C, k, rfl, hw, w1, w2, i64_of w3⟩
end Go.Proofs.Ytgilfjojimgpaaa.Qy
