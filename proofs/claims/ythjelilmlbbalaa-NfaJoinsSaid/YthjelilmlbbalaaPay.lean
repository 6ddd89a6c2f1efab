/-
  slices.Sort of a row of ints of the call's own (layer 17), by the library's contract.
  Conditions: as each theorem says.
-/
import Derived.Test.YthjelilmlbbalaaPaj
import Derived.Test.YthjelilmlbbalaaPak
import Derived.Test.YthjelilmlbbalaaPam
import Derived.Shelf.Sort.Plain
import Derived.Shelf.Slices.In.SortNone
import Derived.Sort.OwnSortedInts
namespace Go.Proofs.Ythjelilmlbbalaa.Dg
open Go.RowKit Go.Sort Go.Proofs.Ythjelilmlbbalaa.Bw Go.Proofs.Ythjelilmlbbalaa.Na Go.Proofs.Ythjelilmlbbalaa.Ko Go.Proofs.Ythjelilmlbbalaa.An Go.Proofs.Ythjelilmlbbalaa.Ac

def ren : Shelf.Ren := ⟨fun | 125 => 69 | 128 => 87 | 129 => 88 | 189 => 57 | 215 => 97 | 216 => 84 | 257 => 68 | 294 => 78 | 295 => 79 | 296 => 80 | 297 => 81 | 298 => 82 | 299 => 83 | 300 => 85 | 301 => 86 | 328 => 92 | 329 => 93 | 330 => 94 | 331 => 95 | 332 => 96 | 343 => 105 | n => n,
  fun | 0 => 0 | 3 => 3 | 4 => 4 | 5 => 5 | 9 => 9 | 28 => 26 | 46 => 103 | 51 => 117 | 53 => 62 | 131 => 114 | 182 => 109 | 183 => 110 | 218 => 120 | 222 => 124 | 228 => 134 | 229 => 57 | n => n, fun x => x⟩
theorem lays : Lays.n189 Try.prog ren := by
  constructor <;> (intros; kernel_rfl)
/-- The list in order. -/
def srt (L : List Int) : List Int := L.mergeSort fun x y => decide (x ≤ y)
theorem srt_len (L : List Int) : (srt L).length = L.length := List.length_mergeSort L
theorem srt_mem {L : List Int} {x : Int} : x ∈ srt L ↔ x ∈ L := List.mem_mergeSort
theorem asc_of : ∀ {L : List Int}, L.Pairwise (fun x y => x ≤ y) → L.Nodup → asc L
  | [], _, _ => by unfold asc; trivial
  | x :: L, h, k => by
    rw [List.pairwise_cons] at h
    rw [List.nodup_cons] at k
    unfold asc
    exact ⟨fun y hy => by
      have h1 := h.1 y hy
      have h2 : x ≠ y := fun e => k.1 (e ▸ hy)
      omega, asc_of h.2 k.2⟩
theorem srt_asc {L : List Int} (h : L.Nodup) : asc (srt L) := by
  have hp : (srt L).Pairwise (fun x y => decide (x ≤ y) = true) := List.pairwise_mergeSort (le := fun x y => decide (x ≤ y)) (fun a b c h1 h2 => by simp at h1 h2 ⊢; omega) (fun a b => by simp; omega) L
  exact asc_of (hp.imp (fun h => by simpa using h)) ((List.mergeSort_perm L _).nodup_iff.2 h)
theorem sort_any {w : World} {base : Nat} {v : Value} {L : List Int} (hL : L.length ≤ 1000000) (H : ints w base 3 v L) :
    Calls Try.prog 57 #[v] w fun e w' => e = .returned (.tuple #[]) ∧ ints w' base 3 v (srt L) ∧ Only (fun i => v.ownBlock = some i) w w' := by
  rcases H.2 with ⟨rfl, h0⟩ | ⟨g, cap, cur, rfl, hb, hh, hc, hm, hs, ht⟩
  · have e0 : L = [] := List.length_eq_zero_iff.1 h0
    subst e0
    refine (Any.slices_Sort_int_none lays none 0 w).mono ?_
    rintro e w' ⟨rfl, rfl⟩
    exact ⟨rfl, by rw [show srt [] = [] by simp [srt]]; exact H, Only.refl _ _⟩
  · have hg := (World.ownsRow.lt H g rfl).2
    have ht' : cur.toList.take L.length = L.map (Value.int .i64) := by simpa [Is] using ht
    refine (Any.slices_Sort_int lays g 0 cap L w (holds_of_blockI hh ht') hg (by omega)).mono ?_
    rintro e w' ⟨rfl, n, os, rfl⟩
    have k := ownsRow_sortedI (n := n) (os := os) (ss := L) (ts := srt L) (srt_len L) hb hh hc hm (by omega)
    refine ⟨rfl, ?_, (Only.refl _ w).grown (grownBy_sortedI (n := n) (os := os) (srt L).toArray) (fun i hi _ => hi)⟩
    unfold ints
    rw [srt_len]
    exact k
end Go.Proofs.Ythjelilmlbbalaa.Dg
