/-
  A slice of bytes that a call makes itself, byte by byte: what it holds behind an append, and the string that is made of it.
  Conditions: as each theorem says.
-/
import Derived.Test.YthjelilmlbbalaaPaa
import Derived.WalkKit
import Derived.Lib.BufferRead
import Derived.Laws.OwnMore
namespace Go.Proofs.Ythjelilmlbbalaa.Vo
open Go.RowKit Go.Proofs.Ythjelilmlbbalaa.Vm

theorem ret_str {s t : ByteArray} (h : s = t) : Ending.returned (.string s) = .returned (.string t) := by rw [h]
theorem ret_str_int {s t : ByteArray} {k : IntKind} {a b : Int} (h : s = t) (h' : a = b) : Ending.returned (.tuple #[.string s, .int k a]) = .returned (.tuple #[.string t, .int k b]) := by rw [h, h']
theorem ret_int3 {k1 k2 k3 : IntKind} {a b c a' b' c' : Int} (h : a = a') (h' : b = b') (h'' : c = c') : Ending.returned (.tuple #[.int k1 a, .int k2 b, .int k3 c]) = .returned (.tuple #[.int k1 a', .int k2 b', .int k3 c']) := by rw [h, h', h'']
theorem ret_int2 {k1 k2 : IntKind} {a b a' b' : Int} (h : a = a') (h' : b = b') : Ending.returned (.tuple #[.int k1 a, .int k2 b]) = .returned (.tuple #[.int k1 a', .int k2 b']) := by rw [h, h']

/-- One byte that is appended: what the law leaves, in a loop's words. -/
theorem own_snoc {wr w1 w : World} {base : Nat} {e : TypeId} {v v' : Value} {l : List UInt8} {b : UInt8} {x : Value} (hb : base ≤ w.heap.size) (hbel : Below base w wr)
    (hown : wr.ownsRow base e 1 v l.length (Bs l))
    (hown' : w1.ownsRow base e 1 v' (l.length + 1) (Bs l ++ [B b])) (hgrow : (wr.alloc (.cells #[x] e)).grownBy w1 v.ownBlock) :
    w1.ownsRow base e 1 v' (l ++ [b]).length (Bs (l ++ [b])) ∧ Below base w w1 := by
  refine ⟨by rw [← Bs_snoc]; simpa using hown', ?_⟩
  have hs := hbel.size
  exact (hbel.alloc (by omega) _).grown hgrow (by simp; omega) (fun k hk => (hown.lt k hk).1)

/-- 'string(b)' of such a slice. -/
theorem own_string {P : Program} {w : World} {base : Nat} {e src dst : TypeId} {v : Value} {l : List UInt8}
    (hs : P.underlying src = some (.slice e)) (he : P.underlying e = some (.int .u8)) (hd : P.underlying dst = some .string)
    (hown : w.ownsRow base e 1 v l.length (Bs l)) : (convert src dst v).run P w = .ok (.string ⟨l.toArray⟩) w := by
  rcases hown.2 with ⟨rfl, h0⟩ | ⟨g, cap, cur, rfl, _⟩
  · have : l = [] := List.eq_nil_of_length_eq_zero h0
    subst this
    exact Lib.run_convert_nil_bytes w src dst e 0 hs he hd
  · refine run_convert_bytes_back w src dst e ⟨g, 0, none⟩ cap l hs he hd (fun j hj => ?_)
    have h := hown.cellAt j (by simpa using hj)
    have e1 : ((⟨g, 0, none⟩ : Addr).add j) = ⟨g, j, none⟩ := by simp [Addr.add]; omega
    rw [e1, h]
    simp [Bs, B, hj]

/-- What 'make([]byte, W)' lays. -/
theorem own_made {w : World} {e : TypeId} {W : Nat} {M : Array Value} {i0 : TypeInfo} {n : Nat} (HM : Hid (M = madeCells (Value.int .u8 0).cells (((W : Nat) : Int).toNat * i0.size))) (HZ : Hid (i0.size = 1)) (hW : W ≤ maxLen := by unfold maxLen; omega) :
    (w.alloc (.cells M e)).ownsRow w.heap.size e 1 (.slice (some ⟨w.heap.size, 0, none⟩) W W) W (Bs (le 0 n ++ List.replicate (W - 0) 0)) := by
  have hm : M = madeCells #[.int .u8 0] W := by rw [HM.out, HZ.out]; simp [Value.cells]
  have hl : M.toList = Bs (le 0 n ++ List.replicate (W - 0) 0) := by
    rw [hm, toList_madeCells_one]; simp [le, Bs, B]
  have h := World.ownsRow_lit (base := w.heap.size) (e := e) (size := 1) w M W (Nat.le_refl _) hW (by rw [← Array.length_toList, hl, Bs_length]; simp [le])
  rw [hl] at h
  exact h
theorem own_cell {w : World} {base : Nat} {e : TypeId} {g n cap k : Nat} {l : List UInt8} (h : w.ownsRow base e 1 (.slice (some ⟨g, 0, none⟩) n cap) n (Bs l)) (hk : k < n) : ∃ v, w.cell? ⟨g, k, none⟩ = some v := by
  have hl : k < (Bs l).length := by rw [h.1]; omega
  exact ⟨_, (h.cellAt k (by omega)).trans (List.getElem?_eq_getElem hl)⟩

end Go.Proofs.Ythjelilmlbbalaa.Vo
