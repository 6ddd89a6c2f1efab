/-
  window: a window in memory; isNone, Len, and what stores in place of the oldest bytes.
  Conditions: as each theorem says.
-/
import Derived.Test.YtoniejpbgidmfaaWc
import Derived.Test.YtoniejpbgidmfaaBr
import Derived.StillTailTactics
import Derived.BigRegion
import Derived.Deep.RegionLaw
import Derived.WalkSpells
import Derived.WalkLawsBesides
import Derived.Test.YtoniejpbgidmfaaRows
namespace Go.Proofs.Ytoniejpbgidmfaa.Ww
open Go.RowKit Go.Proofs.Ytoniejpbgidmfaa.Vm Go.Proofs.Ytoniejpbgidmfaa.Bw Go.Proofs.Ytoniejpbgidmfaa.Br Go.Proofs.Ytoniejpbgidmfaa.Wr Go.Proofs.Ytoniejpbgidmfaa.Wc

/-- A window at block g whose slice is v, which begins at x. -/
def wb (w : World) (g : Nat) (v : Value) (x : Nat) : Prop := Blk w g 45 #[.pointer (some ⟨g, 0, none⟩), v, .int .i64 x]
/-- .. its ring is l. -/
structure win (base : Nat) (w : World) (g : Nat) (v : Value) (l : List UInt8) (x : Nat) : Prop where
  b : wb w g v x
  o : byts w base 5 v l
  r : ring 32768 l x
  g0 : base ≤ g
/-- What such a window may write. -/
def own (g : Nat) (v : Value) (k : Nat) : Prop := k = g ∨ v.ownBlock = some k
/-- Where a row lies behind it. -/
def later (w : World) (v v' : Value) : Prop := v'.ownBlock = v.ownBlock ∨ ∃ k, w.heap.size ≤ k ∧ v'.ownBlock = some k

section
variable {w w' : World} {g : Nat} {v : Value} {x : Nat}
theorem wb.c0 (h : wb w g v x) : w.cell? ⟨g, 0, none⟩ = some (.pointer (some ⟨g, 0, none⟩)) := Blk.cell h 0
theorem wb.c1 (h : wb w g v x) : w.cell? ⟨g, 1, none⟩ = some v := Blk.cell h 1
theorem wb.c2 (h : wb w g v x) : w.cell? ⟨g, 2, none⟩ = some (.int .i64 x) := Blk.cell h 2
theorem wb.f1 (h : wb w g v x) : w.frozen? ⟨g, 1, none⟩ = false := Blk.frozen h 1
theorem wb.f2 (h : wb w g v x) : w.frozen? ⟨g, 2, none⟩ = false := Blk.frozen h 2
theorem wb.lt (h : wb w g v x) : g < w.heap.size := Blk.lt h
theorem wb.ring (h : wb w g v x) (v' : Value) : wb (w.setCell ⟨g, 1, none⟩ v') g v' x := Blk.store h 1 _
theorem wb.next (h : wb w g v x) {y : Nat} {z : Int} (hz : z = (y : Int)) : wb (w.setCell ⟨g, 2, none⟩ (.int .i64 z)) g v y := by subst hz; exact Blk.store h 2 _
theorem wb.only {S : Nat → Prop} (h : wb w g v x) (k : Only S w w') (hg : ¬ S g) : wb w' g v x := Blk.only h k hg
theorem wb.draws (h : wb w g v x) (n : Nat) : wb (w.drewN n) g v x := h
theorem wb.apart {base : Nat} {u : Value} {l : List UInt8} (h : wb w g v x) (o : byts w base 5 u l) : ∀ i, u.ownBlock = some i → i ≠ g := own_apart o h (by decide)
end

section
variable {base : Nat} {w w' : World} {g : Nat} {v : Value} {l : List UInt8} {x : Nat}
theorem win.draws (h : win base w g v l x) (n : Nat) : win base (w.drewN n) g v l x := ⟨h.b, h.o, h.r, h.g0⟩
theorem win.only {S : Nat → Prop} (h : win base w g v l x) (k : Only S w w') (hS : ∀ i, own g v i → ¬ S i) : win base w' g v l x :=
  ⟨h.b.only k (hS g (.inl rfl)), h.o.only k (fun i hi => hS i (.inr hi)), h.r, h.g0⟩
theorem win.lo (h : win base w g v l x) : ∀ i, own g v i → base ≤ i := by
  rintro i (rfl | hi)
  · exact h.g0
  · exact (World.ownsRow.lt h.o i hi).1
theorem win.hi (h : win base w g v l x) : ∀ i, own g v i → i < w.heap.size := by
  rintro i (rfl | hi)
  · exact h.b.lt
  · exact (World.ownsRow.lt h.o i hi).2
theorem win.below (h : win base w g v l x) (k : Below w.heap.size w w') : win base w' g v l x :=
  h.only (S := fun _ => False) (Only.of_below k) (fun _ _ e => e)
theorem win.b0 (h : win base w g v l x) : base ≤ w.heap.size := by have := h.g0; have := h.b.lt; omega
end

theorem infoW : (Try.prog.info? 45).isSome = true := by kernel_rfl
theorem info8 : (Try.prog.info? 5).map (fun i => (i.zero, i.size, i.bytes)) = some (some (.int .u8 0), 1, 1) := by kernel_rfl
theorem size8 : (Try.prog.info? 5).map (·.size) = some 1 := by kernel_rfl
theorem none_nil (w : World) : Calls Try.prog 20 #[.pointer none] w fun e w' => e = .returned (.bool true) ∧ w = w' := by
  go_enter Try.func20, Try.ntmps20
  go_wp2
  go_ret
  exact ⟨rfl, rfl⟩
theorem none_any {w : World} {g : Nat} {v : Value} {x : Nat} (h : wb w g v x) : Calls Try.prog 20 #[.pointer (some ⟨g, 0, none⟩)] w fun e w' => e = .returned (.bool false) ∧ w = w' := by
  have c0 := h.c0
  obtain ⟨j, hj⟩ := Option.isSome_iff_exists.1 infoW
  have he := run_neq_same w ⟨g, 0, none⟩ Try.underlying24 hj
  clear hj
  go_enter Try.func20, Try.ntmps20
  go_wp2
  go_ret
  exact ⟨rfl, rfl⟩
/-- A window that New did not return. -/
theorem none_zero {w : World} {g : Nat} (c0 : w.cell? ⟨g, 0, none⟩ = some (.pointer none)) : Calls Try.prog 20 #[.pointer (some ⟨g, 0, none⟩)] w fun e w' => e = .returned (.bool true) ∧ w = w' := by
  have he := run_neq_nil w ⟨g, 0, none⟩ Try.underlying24
  go_enter Try.func20, Try.ntmps20
  go_wp2
  go_ret
  exact ⟨rfl, rfl⟩
theorem Len_any {base : Nat} {w : World} {g : Nat} {v : Value} {l : List UInt8} {x : Nat} (h : win base w g v l x) :
    Calls Try.prog 19 #[.pointer (some ⟨g, 0, none⟩)] w fun e w' => e = .returned (.int .i64 l.length) ∧ w = w' := by
  have hN := Lib.hid (none_any h.b)
  have c1 := h.b.c1
  obtain ⟨A, cap, hv⟩ := h.o.form
  subst hv
  clear h
  go_enter Try.func19, Try.ntmps19
  go_wp2_with (go_at_call 20; refine hN.out.mono ?_; rintro e w' ⟨rfl, rfl⟩)
  go_ret
  exact ⟨rfl, rfl⟩
end Go.Proofs.Ytoniejpbgidmfaa.Ww
