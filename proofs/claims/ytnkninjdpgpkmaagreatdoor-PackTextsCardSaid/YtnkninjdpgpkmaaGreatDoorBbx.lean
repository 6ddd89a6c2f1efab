/-
  Arguments opened: a list of parts (a number, a string, a list of ops, two lists of ints each).
  Conditions: as each theorem says.
-/
import Derived.Test.YtnkninjdpgpkmaaGreatDoorBak
import Derived.Test.YtnkninjdpgpkmaaGreatDoorBav
import Derived.Deep.Slices
namespace Go.Proofs.YtnkninjdpgpkmaaGreatDoor.Hy
open Go.ChangeShapes Go.WideShapes Go.ChangeAt Go.RowKit Go.Proofs.YtnkninjdpgpkmaaGreatDoor.Na Go.Proofs.YtnkninjdpgpkmaaGreatDoor.Ky Go.Proofs.YtnkninjdpgpkmaaGreatDoor.Gp Go.Proofs.YtnkninjdpgpkmaaGreatDoor.Gt

theorem pickL {α : Type} {P : Nat → α → Prop} : ∀ n, (∀ i, i < n → ∃ o, P i o) → ∃ l : List α, l.length = n ∧ ∀ i o, l[i]? = some o → P i o
  | 0, _ => ⟨[], rfl, fun i o h => by simp at h⟩
  | n + 1, h => by
    obtain ⟨l, hl, hp⟩ := pickL n (fun i hi => h i (by omega))
    obtain ⟨o, ho⟩ := h n (by omega)
    refine ⟨l ++ [o], by simp [hl], fun i x hx => ?_⟩
    by_cases hi : i < l.length
    · rw [List.getElem?_append_left hi] at hx; exact hp i x hx
    · have hlt := (List.getElem?_eq_some_iff.1 hx).1
      rw [List.length_append] at hlt
      have hin : i = l.length := by
        have : [o].length = 1 := rfl
        omega
      subst hin
      rw [List.getElem?_append_right (Nat.le_refl _), Nat.sub_self] at hx
      obtain rfl : o = x := by simpa using hx
      rw [hl]; exact ho
theorem len3 {α : Type} : ∀ l : List α, l.length = 3 → ∃ a b c, l = [a, b, c]
  | [a, b, c], _ => ⟨a, b, c, rfl⟩
theorem in64_of {z : Int} (h : (Lit.int .i64 z).wf = true) : in64 z := by
  simpa [in64, Lit.wf, IntKind.min, IntKind.max, IntKind.signed, IntKind.bits] using h

set_option maxRecDepth 100000 in
theorem open_ops {H : Type} {enc : TypeId × Value → H} {w : World} {base : Nat} {held : Bool} {c : Value} {x : DataW H × List MemPlace} {fuel : Nat}
    (hf : DataW.trod enc Tryz.prog w base (fun _ => true) held fuel 90 [c] = some x) :
    ∃ (A : Option Addr) (cap : Nat) (os : List Opi), c = .slice A os.length cap ∧ opr w A os := by
  rcases Go.Deep.open_slice Tryz.underlying90 hf with ⟨h0, _⟩ | ⟨a, len, cap, m, n, D, Pl, hcs, _, hl, hm, hmm, _, hi⟩
  · simp at h0
    exact ⟨none, 0, [], h0, opr_nil _ _⟩
  · simp at hcs
    have hC : Tryz.prog.cellsOf 89 = 3 := by kernel_rfl
    have hcb : Tryz.prog.cellsOf 5 = 1 := by kernel_rfl
    have hci : Tryz.prog.cellsOf 3 = 1 := by kernel_rfl
    have key : ∀ i, i < len → ∃ o : Opi, in64 o.n ∧ in64 o.d ∧ w.cell? (a.add (i * 3 + 0)) = some (.int .u8 (o.x.toNat : Int)) ∧ w.cell? (a.add (i * 3 + 1)) = some (.int .i64 o.n) ∧ w.cell? (a.add (i * 3 + 2)) = some (.int .i64 o.d) := by
      intro i hlt
      obtain ⟨cs, hc, htr⟩ := hi i (by rw [hmm]; split <;> omega)
      obtain ⟨_, hcl, hat⟩ := World.cells?_some hc
      rw [hC] at hcl hat
      obtain ⟨ys, n', _, _, _, hlen, hfi⟩ := DataW.trod_struct Tryz.underlying89 htr
      obtain ⟨c0, c1, c2, rfl⟩ := len3 cs hcl
      obtain ⟨y0, y1, y2, rfl⟩ := len3 ys hlen
      have g0 := hfi 0 _ rfl
      have g1 := hfi 1 _ rfl
      have g2 := hfi 2 _ rfl
      simp [hcb, hci] at g0 g1 g2
      obtain ⟨x0, e0, _, w0⟩ := DataW.trod_int Tryz.underlying5 g0
      obtain ⟨x1, e1, _, w1⟩ := DataW.trod_int Tryz.underlying3 g1
      obtain ⟨x2, e2, _, w2⟩ := DataW.trod_int Tryz.underlying3 g2
      simp at e0 e1 e2
      subst e0; subst e1; subst e2
      have w0' : 0 ≤ x0 ∧ x0 ≤ 255 := by simpa [Lit.wf, IntKind.min, IntKind.max, IntKind.signed, IntKind.bits] using w0
      have hx : ((UInt8.ofNat x0.toNat).toNat : Int) = x0 := by rw [UInt8.toNat_ofNat']; omega
      refine ⟨⟨UInt8.ofNat x0.toNat, x1, x2⟩, in64_of w1, in64_of w2, ?_, ?_, ?_⟩
      · show _ = some (Value.int IntKind.u8 ((UInt8.ofNat x0.toNat).toNat : Int))
        rw [hx, ← Go.Deep.add_add, hat 0 (by omega)]; rfl
      · rw [← Go.Deep.add_add, hat 1 (by omega)]; rfl
      · rw [← Go.Deep.add_add, hat 2 (by omega)]; rfl
    obtain ⟨os, hos, hP⟩ := pickL len key
    subst hos
    refine ⟨some a, cap, os, hcs, fun i o hio => ?_⟩
    obtain ⟨b, off, spot⟩ := a
    obtain ⟨h1, h2, h3, h4, h5⟩ := hP i o hio
    have h0 : 0 < os.length := by have := (List.getElem?_eq_some_iff.1 hio).1; omega
    have hspot : spot = none := by simpa [Addr.add] using World.cell?_spot (hP 0 _ (List.getElem?_eq_getElem h0)).2.2.1
    subst hspot
    rw [add_plain] at h3 h4 h5
    exact ⟨h1, h2, b, off, rfl, World.block_lt_of_cell? _ _ h3, h3, h4, h5⟩

set_option maxRecDepth 100000 in
theorem open_parts {H : Type} {enc : TypeId × Value → H} {w : World} {base : Nat} {held : Bool} {v : Value} {d : DataW H} {p : List MemPlace} {r : Reach} {b0 : Nat}
    (hv : Value.okWide Tryz.prog w r b0 45 v) (h : DataW.Trod enc Tryz.prog w base (fun _ => true) held 45 v d p) :
    ∃ (A : Option Addr) (cap : Nat) (l : List Pz), v = .slice A l.length cap ∧ ptr w A l := by
  obtain ⟨A, n, cap, rfl⟩ := okWide_slice Tryz.underlying45 hv
  obtain ⟨fuel, hf⟩ := h
  rcases Go.Deep.open_slice Tryz.underlying45 hf with ⟨h0, _⟩ | ⟨a, len, cap', m, nn, D, Pl, hcs, _, hl, hm, hmm, _, hi⟩
  · simp [Value.cells] at h0
    obtain ⟨rfl, rfl, rfl⟩ := h0
    exact ⟨none, 0, [], rfl, fun i p hp => by simp at hp⟩
  · simp [Value.cells] at hcs
    obtain ⟨rfl, rfl, rfl⟩ := hcs
    have hC : Tryz.prog.cellsOf 96 = 5 := by kernel_rfl
    have hcs : Tryz.prog.cellsOf 9 = 1 := by kernel_rfl
    have hci : Tryz.prog.cellsOf 3 = 1 := by kernel_rfl
    have hco : Tryz.prog.cellsOf 90 = 1 := by kernel_rfl
    have hcl' : Tryz.prog.cellsOf 22 = 1 := by kernel_rfl
    have key : ∀ i, i < n → ∃ p : Pz, in64 p.k ∧ w.cell? (a.add (i * 5 + 0)) = some (.int .i64 p.k) ∧ w.cell? (a.add (i * 5 + 1)) = some (.string p.t) ∧ (∃ A c, w.cell? (a.add (i * 5 + 2)) = some (.slice A p.os.length c) ∧ opr w A p.os)
        ∧ (∃ A c, w.cell? (a.add (i * 5 + 3)) = some (.slice A p.n1 c) ∧ row w A p.n1 p.f1 ∧ p.n1 ≤ 9223372036854775807) ∧ (∃ A c, w.cell? (a.add (i * 5 + 4)) = some (.slice A p.n2 c) ∧ row w A p.n2 p.f2 ∧ p.n2 ≤ 9223372036854775807) := by
      intro i hlt
      obtain ⟨cs, hc, htr⟩ := hi i (by rw [hmm]; split <;> omega)
      obtain ⟨_, hcl, hat⟩ := World.cells?_some hc
      rw [hC] at hcl hat
      obtain ⟨ys, n', _, _, _, hlen, hfi⟩ := DataW.trod_struct Tryz.underlying96 htr
      obtain ⟨c0, c1, c2, c3, c4, rfl⟩ := len5 cs hcl
      obtain ⟨y0, y1, y2, y3, y4, rfl⟩ := len5 ys hlen
      have g0 := hfi 0 _ rfl
      have g1 := hfi 1 _ rfl
      have g2 := hfi 2 _ rfl
      have g3 := hfi 3 _ rfl
      have g4 := hfi 4 _ rfl
      simp [hcs, hci, hco, hcl'] at g0 g1 g2 g3 g4
      obtain ⟨x0, e0, _, w0⟩ := DataW.trod_int Tryz.underlying3 g0
      obtain ⟨x1, e1, _, w1⟩ := DataW.trod_string Tryz.underlying9 g1
      obtain ⟨A2, q2, os, e2, r2⟩ := open_ops g2
      obtain ⟨A3, n3, q3, f3, e3, l3, r3⟩ := open_row' Tryz.underlying22 Tryz.underlying3 hci g3
      obtain ⟨A4, n4, q4, f4, e4, l4, r4⟩ := open_row' Tryz.underlying22 Tryz.underlying3 hci g4
      simp at e0 e1
      subst e0; subst e1; subst e2; subst e3; subst e4
      refine ⟨⟨x0, x1, os, n3, f3, n4, f4⟩, in64_of w0, ?_, ?_, ⟨A2, q2, ?_, r2⟩, ⟨A3, q3, ?_, r3, l3⟩, ⟨A4, q4, ?_, r4, l4⟩⟩
      · rw [← Go.Deep.add_add, hat 0 (by omega)]; rfl
      · rw [← Go.Deep.add_add, hat 1 (by omega)]; rfl
      · rw [← Go.Deep.add_add, hat 2 (by omega)]; rfl
      · rw [← Go.Deep.add_add, hat 3 (by omega)]; rfl
      · rw [← Go.Deep.add_add, hat 4 (by omega)]; rfl
    obtain ⟨l, hl', hP⟩ := pickL n key
    subst hl'
    refine ⟨some a, cap, l, rfl, fun i p hp => ?_⟩
    obtain ⟨b, off, spot⟩ := a
    obtain ⟨h1, h2, h3, ⟨A2, q2, h4, r4⟩, ⟨A3, q3, h5, r5, l5⟩, ⟨A4, q4, h6, r6, l6⟩⟩ := hP i p hp
    have h0 : 0 < l.length := by have := (List.getElem?_eq_some_iff.1 hp).1; omega
    have hspot : spot = none := by simpa [Addr.add] using World.cell?_spot (hP 0 _ (List.getElem?_eq_getElem h0)).2.1
    subst hspot
    rw [add_plain] at h2 h3 h4 h5 h6
    exact ⟨b, off, rfl, World.block_lt_of_cell? _ _ h2, ⟨h1, h2, h3, ⟨A2, q2, h4, r4⟩, ⟨A3, q3, h5, r5, l5⟩, ⟨A4, q4, h6, r6, l6⟩⟩⟩
end Go.Proofs.YtnkninjdpgpkmaaGreatDoor.Hy
