/-
  '[]byte(s)': a block of the call's own that holds a string's bytes, read, written and turned back into a string.
  Conditions: none but the ones that each theorem names. Nothing of the program is named here.
-/
import Derived.WalkKit
import Derived.Laws.IdiomStrings
import Derived.Lib.Hide
namespace Go.Proofs.Ytfmpmjbgimeedaa.Cb
open Go.RowKit

/-- Block g holds these bytes, and none of them is frozen. -/
def bytesIn (w : World) (g : Nat) (e : TypeId) (l : List UInt8) : Prop :=
  ∃ (C : Array Value) (m : Nat), w.heap[g]? = some (.cells C e (m, m + 1)) ∧ l.length ≤ m ∧ ∀ (j : Nat) (x : UInt8), l[j]? = some x → C[j]? = some (.int .u8 (x.toNat : Int))

theorem bytesIn.cell {w : World} {g : Nat} {e : TypeId} {l : List UInt8} (h : bytesIn w g e l) {j : Nat} {x : UInt8} (hj : l[j]? = some x) : w.cell? ⟨g, j, none⟩ = some (.int .u8 (x.toNat : Int)) := by
  obtain ⟨C, m, hg, _, hc⟩ := h
  rw [cell_of_row _ _ _ _ _ _ hg]; exact hc j x hj
theorem bytesIn.frozen {w : World} {g : Nat} {e : TypeId} {l : List UInt8} (h : bytesIn w g e l) {j : Nat} (hj : j < l.length) : w.frozen? ⟨g, j, none⟩ = false := by
  obtain ⟨C, m, hg, hm, _⟩ := h
  simp [World.frozen?, hg]
  omega
theorem bytesIn.store {w : World} {g : Nat} {e : TypeId} {l : List UInt8} (h : bytesIn w g e l) (j : Nat) (x : UInt8) : bytesIn (w.setCell ⟨g, j, none⟩ (.int .u8 (x.toNat : Int))) g e (l.set j x) := by
  obtain ⟨C, m, hg, hm, hc⟩ := h
  refine ⟨C.setIfInBounds j (.int .u8 (x.toNat : Int)), m, ?_, by simpa using hm, ?_⟩
  · rw [setCell_eq_setRow _ _ _ _ _ _ _ hg]; exact setRow_heap _ _ _ _ _ _ hg
  · intro i y hy
    rw [List.getElem?_set] at hy
    rw [Array.getElem?_setIfInBounds]
    by_cases hij : j = i
    · subst hij
      by_cases hl : j < l.length
      · simp [hl] at hy
        subst hy
        obtain ⟨z, hz⟩ : ∃ z, l[j]? = some z := ⟨_, List.getElem?_eq_getElem hl⟩
        have hC := hc j z hz
        have : j < C.size := by
          rcases Nat.lt_or_ge j C.size with h | h
          · exact h
          · simp [Array.getElem?_eq_none h] at hC
        simp [this]
      · simp [hl] at hy
    · simp only [hij, if_false] at hy
      rw [if_neg hij]
      exact hc i y hy
theorem bytesIn.drew {w : World} {g : Nat} {e : TypeId} {l : List UInt8} (h : bytesIn w g e l) : bytesIn w.drew g e l := h
theorem bytesIn.below {w w' : World} {g : Nat} {e : TypeId} {l : List UInt8} (h : bytesIn w g e l) (hb : Below w.heap.size w w') : bytesIn w' g e l := by
  obtain ⟨C, m, hg, hm, hc⟩ := h
  refine ⟨C, m, ?_, hm, hc⟩
  have : g < w.heap.size := by
    rcases Nat.lt_or_ge g w.heap.size with h | h
    · exact h
    · simp [Array.getElem?_eq_none h] at hg
  rw [hb.block g this, hg]
/-- What '[]byte(s)' lays. -/
theorem bytesIn_new (w : World) (s : ByteArray) (cap : Nat) (e : TypeId) : bytesIn (w.alloc (.cells (bytesRow s cap) e ((bytesRow s cap).size, (bytesRow s cap).size + 1))) w.heap.size e s.data.toList := by
  refine ⟨bytesRow s cap, (bytesRow s cap).size, ?_, ?_, ?_⟩
  · exact heap_alloc_new w _
  · simp [bytesRow]
  · intro j x hj
    have h : j < s.data.size := by
      rcases Nat.lt_or_ge j s.data.size with h | h
      · exact h
      · rw [Array.getElem?_toList, Array.getElem?_eq_none h] at hj; simp at hj
    rw [bytesRow_at s cap j h]
    rw [Array.getElem?_toList, Array.getElem?_eq_getElem h] at hj
    simp at hj
    rw [hj]
/-- 'string(b)' of it. -/
theorem bytesIn.string {P : Program} {w : World} {g : Nat} {e src dst : TypeId} {l : List UInt8} (h : bytesIn w g e l) (cap : Nat)
    (hs : P.underlying src = some (.slice e)) (he : P.underlying e = some (.int .u8)) (hd : P.underlying dst = some .string) :
    (convert src dst (.slice (some ⟨g, 0, none⟩) l.length cap)).run P w = .ok (.string ⟨l.toArray⟩) w := by
  refine run_convert_bytes_back w src dst e ⟨g, 0, none⟩ cap l hs he hd (fun j hj => ?_)
  have e1 : ((⟨g, 0, none⟩ : Addr).add j) = ⟨g, j, none⟩ := by simp [Addr.add]; omega
  rw [e1, h.cell (List.getElem?_eq_getElem hj)]

end Go.Proofs.Ytfmpmjbgimeedaa.Cb
