/-
  Arguments opened: a slice of structs of an integer, a string and two integers.
  Conditions: as the theorem says. Nothing of the program is named here.
-/
import Derived.Test.YtoniejpbgidmfaaBy
namespace Go.Proofs.Ytoniejpbgidmfaa.Wy
open Go.ChangeShapes Go.WideShapes Go.ChangeAt Go.RowKit Go.Proofs.Ytoniejpbgidmfaa.By

/-- .. of an integer, a string and two integers each. -/
theorem open_plays {H : Type} {enc : TypeId × Value → H} {P : Program} {w : World} {base : Nat} {spare : Nat → Bool} {held : Bool} {t e ti ts : TypeId} {fs : Array Field} {q : IntKind} {f0 f1 f2 f3 : Field} {a0 : Option Addr} {len cap : Nat} {d : DataW H} {p : List MemPlace}
    (ht : P.underlying t = some (.slice e)) (he : P.underlying e = some (.struct fs)) (hti : P.underlying ti = some (.int q)) (hts : P.underlying ts = some .string) (hC : P.cellsOf e = 4) (hCi : P.cellsOf ti = 1) (hCs : P.cellsOf ts = 1)
    (h0 : fs[0]? = some f0) (h1 : fs[1]? = some f1) (h2 : fs[2]? = some f2) (h3 : fs[3]? = some f3) (e0 : f0.type = ti ∧ f0.offset = 0) (e1 : f1.type = ts ∧ f1.offset = 1) (e2 : f2.type = ti ∧ f2.offset = 2) (e3 : f3.type = ti ∧ f3.offset = 3)
    (h : DataW.Trod enc P w base spare held t (.slice a0 len cap) d p) :
    len = 0 ∨ ∃ b off : Nat, a0 = some ⟨b, off, none⟩ ∧ len ≤ cap ∧ cap ≤ maxLen ∧ b < w.heap.size ∧ ∀ i, i < len → ∃ (x y z : Int) (s : ByteArray), w.cell? ⟨b, off + i * 4, none⟩ = some (.int q x) ∧ w.cell? ⟨b, off + i * 4 + 1, none⟩ = some (.string s) ∧ w.cell? ⟨b, off + i * 4 + 2, none⟩ = some (.int q y)
      ∧ w.cell? ⟨b, off + i * 4 + 3, none⟩ = some (.int q z) ∧ (Lit.int q x).wf = true ∧ (Lit.int q y).wf = true ∧ (Lit.int q z).wf = true ∧ s.size ≤ maxLen := by
  rcases open_rows ht hC h with hz | ⟨a, rfl, hl, hm, hi⟩
  · exact .inl hz
  · by_cases hl0 : len = 0
    · exact .inl hl0
    · obtain ⟨b, off, spot⟩ := a
      have key : ∀ i, i < len → ∃ (x y z : Int) (s : ByteArray), w.cell? ((⟨b, off, spot⟩ : Addr).add (i * 4 + 0)) = some (.int q x) ∧ w.cell? ((⟨b, off, spot⟩ : Addr).add (i * 4 + 1)) = some (.string s) ∧ w.cell? ((⟨b, off, spot⟩ : Addr).add (i * 4 + 2)) = some (.int q y)
          ∧ w.cell? ((⟨b, off, spot⟩ : Addr).add (i * 4 + 3)) = some (.int q z) ∧ (Lit.int q x).wf = true ∧ (Lit.int q y).wf = true ∧ (Lit.int q z).wf = true ∧ s.size ≤ maxLen := by
        intro i hlt
        obtain ⟨cs, n, x, hcl, hat, htr⟩ := hi i hlt
        obtain ⟨ys, n', _, _, _, _, hf⟩ := DataW.trod_struct he htr
        match cs, hcl with
        | [c0, c1, c2, c3], _ =>
          have g0 := hf 0 f0 h0
          have g1 := hf 1 f1 h1
          have g2 := hf 2 f2 h2
          have g3 := hf 3 f3 h3
          rw [e0.1, e0.2, hCi] at g0
          rw [e1.1, e1.2, hCs] at g1
          rw [e2.1, e2.2, hCi] at g2
          rw [e3.1, e3.2, hCi] at g3
          have hl2 : ys.length = fs.size := by assumption
          have s0 : 3 < fs.size := (Array.getElem?_eq_some_iff.1 h3).1
          rw [List.getElem?_eq_getElem (by omega)] at g0 g1 g2 g3
          obtain ⟨x0, hx0, _, w0⟩ := DataW.trod_int hti g0
          obtain ⟨x1, hx1, _, w1⟩ := DataW.trod_string hts g1
          obtain ⟨x2, hx2, _, w2⟩ := DataW.trod_int hti g2
          obtain ⟨x3, hx3, _, w3⟩ := DataW.trod_int hti g3
          simp at hx0 hx1 hx2 hx3
          subst hx0; subst hx1; subst hx2; subst hx3
          exact ⟨x0, x2, x3, x1, hat 0 (by omega), hat 1 (by omega), hat 2 (by omega), hat 3 (by omega), w0, w2, w3, w1⟩
      obtain ⟨x, y, z, s, hx, _⟩ := key 0 (by omega)
      have hspot : spot = none := by simpa [Addr.add] using World.cell?_spot hx
      subst hspot
      have hbW : b < w.heap.size := by simpa [Addr.add] using World.block_lt_of_cell? _ _ hx
      refine .inr ⟨b, off, rfl, hl, hm, hbW, fun i hlt => ?_⟩
      obtain ⟨x, y, z, s, hx, hy, hz, hs, wx, wy, wz, ws⟩ := key i hlt
      rw [add_plain] at hx hy hz hs
      exact ⟨x, y, z, s, hx, hy, hz, hs, wx, wy, wz, ws⟩

end Go.Proofs.Ytoniejpbgidmfaa.Wy
