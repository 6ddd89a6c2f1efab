/-
  Arguments opened: an array of two integers.
  Conditions: as each theorem says.
-/
import Derived.WalkKit
import Derived.ProofKit
import Derived.OpenShut
import Derived.Deep.Slices
namespace Go.Proofs.Ythjelilmlbbalaa.By
open Go.ChangeShapes Go.WideShapes Go.ChangeAt Go.RowKit

theorem open_two {H : Type} {enc : TypeId × Value → H} {P : Program} {w : World} {base : Nat} {spare : Nat → Bool} {held : Bool} {t e : TypeId} {q : IntKind} {v : Value} {d : DataW H} {p : List MemPlace} {r : Reach} {b0 : Nat}
    (ht : P.underlying t = some (.array 2 e)) (he : P.underlying e = some (.int q)) (hc : P.cellsOf t = 2) (hce : P.cellsOf e = 1) (hv : Value.okWide P w r b0 t v) (h : DataW.Trod enc P w base spare held t v d p) :
    ∃ a b : Int, v = .agg #[.int q a, .int q b] ∧ (Lit.int q a).wf = true ∧ (Lit.int q b).wf = true := by
  simp only [Value.okWide, ht] at hv
  obtain ⟨cs, rfl, h2, _⟩ := hv
  obtain ⟨fuel, hf⟩ := h
  obtain ⟨xs, m, _, _, _, hlen, hi⟩ := DataW.trod_array ht hf
  obtain ⟨l⟩ := cs
  have hl : l.length = 2 := by rw [hc] at h2; simpa using h2
  match l, hl with
  | [c0, c1], _ =>
    match xs, hlen with
    | [x0, x1], _ =>
      have g0 := hi 0 (by omega)
      have g1 := hi 1 (by omega)
      simp [Value.cells, hce] at g0 g1
      obtain ⟨a, ha, _, wa⟩ := DataW.trod_int he g0
      obtain ⟨b, hb, _, wb⟩ := DataW.trod_int he g1
      simp at ha hb
      subst ha; subst hb
      exact ⟨a, b, rfl, wa, wb⟩

/-- A slice that came in: its elements' cells. -/
theorem open_rows {H : Type} {enc : TypeId × Value → H} {P : Program} {w : World} {base : Nat} {spare : Nat → Bool} {held : Bool} {t e : TypeId} {C : Nat} {a0 : Option Addr} {len cap : Nat} {d : DataW H} {p : List MemPlace}
    (ht : P.underlying t = some (.slice e)) (hC : P.cellsOf e = C) (h : DataW.Trod enc P w base spare held t (.slice a0 len cap) d p) :
    len = 0 ∨ ∃ a : Addr, a0 = some a ∧ len ≤ cap ∧ cap ≤ maxLen ∧ ∀ i, i < len → ∃ (cs : List Value) (n : Nat) (x : DataW H × List MemPlace), cs.length = C ∧ (∀ j, j < C → w.cell? (a.add (i * C + j)) = cs[j]?) ∧ DataW.trod enc P w base spare held n e cs = some x := by
  obtain ⟨fuel, hf⟩ := h
  rcases Go.Deep.open_slice ht hf with ⟨h0, _⟩ | ⟨a, len', cap', m, n, D, Pl, hcs, _, hl, hm, hmm, _, hi⟩
  · simp [Value.cells] at h0
    exact .inl h0.2.1
  · simp [Value.cells] at hcs
    obtain ⟨rfl, rfl, rfl⟩ := hcs
    refine .inr ⟨a, rfl, hl, hm, fun i hlt => ?_⟩
    obtain ⟨cs, hc, htr⟩ := hi i (by rw [hmm]; split <;> omega)
    obtain ⟨_, hcl, hat⟩ := World.cells?_some hc
    rw [hC] at hcl hat
    refine ⟨cs, n, _, hcl, fun j hj => ?_, htr⟩
    rw [← hat j hj, Go.Deep.add_add]
/-- .. of two integers each. -/
theorem open_twos {H : Type} {enc : TypeId × Value → H} {P : Program} {w : World} {base : Nat} {spare : Nat → Bool} {held : Bool} {t e ti : TypeId} {fs : Array Field} {q : IntKind} {f0 f1 : Field} {a0 : Option Addr} {len cap : Nat} {d : DataW H} {p : List MemPlace}
    (ht : P.underlying t = some (.slice e)) (he : P.underlying e = some (.struct fs)) (hti : P.underlying ti = some (.int q)) (hC : P.cellsOf e = 2) (hCi : P.cellsOf ti = 1)
    (h0 : fs[0]? = some f0) (h1 : fs[1]? = some f1) (e0 : f0.type = ti ∧ f0.offset = 0) (e1 : f1.type = ti ∧ f1.offset = 1)
    (h : DataW.Trod enc P w base spare held t (.slice a0 len cap) d p) :
    len = 0 ∨ ∃ b off : Nat, a0 = some ⟨b, off, none⟩ ∧ len ≤ cap ∧ cap ≤ maxLen ∧ b < w.heap.size ∧ ∀ i, i < len → ∃ x y : Int, w.cell? ⟨b, off + i * 2, none⟩ = some (.int q x) ∧ w.cell? ⟨b, off + i * 2 + 1, none⟩ = some (.int q y) ∧ (Lit.int q x).wf = true ∧ (Lit.int q y).wf = true := by
  rcases open_rows ht hC h with hz | ⟨a, rfl, hl, hm, hi⟩
  · exact .inl hz
  · by_cases hl0 : len = 0
    · exact .inl hl0
    · obtain ⟨b, off, spot⟩ := a
      have key : ∀ i, i < len → ∃ x y : Int, w.cell? ((⟨b, off, spot⟩ : Addr).add (i * 2 + 0)) = some (.int q x) ∧ w.cell? ((⟨b, off, spot⟩ : Addr).add (i * 2 + 1)) = some (.int q y) ∧ (Lit.int q x).wf = true ∧ (Lit.int q y).wf = true := by
        intro i hlt
        obtain ⟨cs, n, x, hcl, hat, htr⟩ := hi i hlt
        obtain ⟨ys, n', _, _, _, _, hf⟩ := DataW.trod_struct he htr
        match cs, hcl with
        | [c0, c1], _ =>
          have g0 := hf 0 f0 h0
          have g1 := hf 1 f1 h1
          rw [e0.1, e0.2, hCi] at g0
          rw [e1.1, e1.2, hCi] at g1
          have hl2 : ys.length = fs.size := by assumption
          have s0 : 0 < fs.size := (Array.getElem?_eq_some_iff.1 h0).1
          have s1 : 1 < fs.size := (Array.getElem?_eq_some_iff.1 h1).1
          rw [List.getElem?_eq_getElem (by omega)] at g0 g1
          obtain ⟨x0, hx0, _, w0⟩ := DataW.trod_int hti g0
          obtain ⟨x1, hx1, _, w1⟩ := DataW.trod_int hti g1
          simp at hx0 hx1
          subst hx0; subst hx1
          exact ⟨x0, x1, hat 0 (by omega), hat 1 (by omega), w0, w1⟩
      obtain ⟨x, y, hx, _⟩ := key 0 (by omega)
      have hspot : spot = none := by simpa [Addr.add] using World.cell?_spot hx
      subst hspot
      have hbW : b < w.heap.size := by simpa [Addr.add] using World.block_lt_of_cell? _ _ hx
      refine .inr ⟨b, off, rfl, hl, hm, hbW, fun i hlt => ?_⟩
      obtain ⟨x, y, hx, hy, wx, wy⟩ := key i hlt
      rw [add_plain] at hx hy
      exact ⟨x, y, hx, hy, wx, wy⟩

/-- .. of three integers and a string each. -/
theorem open_acts {H : Type} {enc : TypeId × Value → H} {P : Program} {w : World} {base : Nat} {spare : Nat → Bool} {held : Bool} {t e ti ts : TypeId} {fs : Array Field} {q : IntKind} {f0 f1 f2 f3 : Field} {a0 : Option Addr} {len cap : Nat} {d : DataW H} {p : List MemPlace}
    (ht : P.underlying t = some (.slice e)) (he : P.underlying e = some (.struct fs)) (hti : P.underlying ti = some (.int q)) (hts : P.underlying ts = some .string) (hC : P.cellsOf e = 4) (hCi : P.cellsOf ti = 1) (hCs : P.cellsOf ts = 1)
    (h0 : fs[0]? = some f0) (h1 : fs[1]? = some f1) (h2 : fs[2]? = some f2) (h3 : fs[3]? = some f3) (e0 : f0.type = ti ∧ f0.offset = 0) (e1 : f1.type = ti ∧ f1.offset = 1) (e2 : f2.type = ti ∧ f2.offset = 2) (e3 : f3.type = ts ∧ f3.offset = 3)
    (h : DataW.Trod enc P w base spare held t (.slice a0 len cap) d p) :
    len = 0 ∨ ∃ b off : Nat, a0 = some ⟨b, off, none⟩ ∧ len ≤ cap ∧ cap ≤ maxLen ∧ b < w.heap.size ∧ ∀ i, i < len → ∃ (x y z : Int) (s : ByteArray), w.cell? ⟨b, off + i * 4, none⟩ = some (.int q x) ∧ w.cell? ⟨b, off + i * 4 + 1, none⟩ = some (.int q y) ∧ w.cell? ⟨b, off + i * 4 + 2, none⟩ = some (.int q z)
      ∧ w.cell? ⟨b, off + i * 4 + 3, none⟩ = some (.string s) ∧ (Lit.int q x).wf = true ∧ (Lit.int q y).wf = true ∧ (Lit.int q z).wf = true ∧ s.size ≤ maxLen := by
  rcases open_rows ht hC h with hz | ⟨a, rfl, hl, hm, hi⟩
  · exact .inl hz
  · by_cases hl0 : len = 0
    · exact .inl hl0
    · obtain ⟨b, off, spot⟩ := a
      have key : ∀ i, i < len → ∃ (x y z : Int) (s : ByteArray), w.cell? ((⟨b, off, spot⟩ : Addr).add (i * 4 + 0)) = some (.int q x) ∧ w.cell? ((⟨b, off, spot⟩ : Addr).add (i * 4 + 1)) = some (.int q y) ∧ w.cell? ((⟨b, off, spot⟩ : Addr).add (i * 4 + 2)) = some (.int q z)
          ∧ w.cell? ((⟨b, off, spot⟩ : Addr).add (i * 4 + 3)) = some (.string s) ∧ (Lit.int q x).wf = true ∧ (Lit.int q y).wf = true ∧ (Lit.int q z).wf = true ∧ s.size ≤ maxLen := by
        intro i hlt
        obtain ⟨cs, n, x, hcl, hat, htr⟩ := hi i hlt
        obtain ⟨ys, n', _, _, _, _, hf⟩ := DataW.trod_struct he htr
        match cs, hcl with
        | [c0, c1, c2, c3], _ =>
          have g0 := hf 0 f0 h0
          have g1 := hf 1 f1 h1
          have g2 := hf 2 f2 h2
          have g3 := hf 3 f3 h3
          rw [e0.1, e0.2, hCi] at g0
          rw [e1.1, e1.2, hCi] at g1
          rw [e2.1, e2.2, hCi] at g2
          rw [e3.1, e3.2, hCs] at g3
          have hl2 : ys.length = fs.size := by assumption
          have s0 : 3 < fs.size := (Array.getElem?_eq_some_iff.1 h3).1
          rw [List.getElem?_eq_getElem (by omega)] at g0 g1 g2 g3
          obtain ⟨x0, hx0, _, w0⟩ := DataW.trod_int hti g0
          obtain ⟨x1, hx1, _, w1⟩ := DataW.trod_int hti g1
          obtain ⟨x2, hx2, _, w2⟩ := DataW.trod_int hti g2
          obtain ⟨x3, hx3, _, w3⟩ := DataW.trod_string hts g3
          simp at hx0 hx1 hx2 hx3
          subst hx0; subst hx1; subst hx2; subst hx3
          exact ⟨x0, x1, x2, x3, hat 0 (by omega), hat 1 (by omega), hat 2 (by omega), hat 3 (by omega), w0, w1, w2, w3⟩
      obtain ⟨x, y, z, s, hx, _⟩ := key 0 (by omega)
      have hspot : spot = none := by simpa [Addr.add] using World.cell?_spot hx
      subst hspot
      have hbW : b < w.heap.size := by simpa [Addr.add] using World.block_lt_of_cell? _ _ hx
      refine .inr ⟨b, off, rfl, hl, hm, hbW, fun i hlt => ?_⟩
      obtain ⟨x, y, z, s, hx, hy, hz, hs, wx, wy, wz, ws⟩ := key i hlt
      rw [add_plain] at hx hy hz hs
      exact ⟨x, y, z, s, hx, hy, hz, hs, wx, wy, wz, ws⟩

end Go.Proofs.Ythjelilmlbbalaa.By
