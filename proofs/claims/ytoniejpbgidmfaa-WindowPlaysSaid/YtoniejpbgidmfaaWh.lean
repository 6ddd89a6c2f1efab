/-
  The program's window and the reference's beside it: what each call does to both.
  Conditions: as each theorem says.
-/
import Derived.Test.YtoniejpbgidmfaaWf
import Derived.Test.YtoniejpbgidmfaaWk
namespace Go.Proofs.Ytoniejpbgidmfaa.Wh
open Go.RowKit Go.Proofs.Ytoniejpbgidmfaa.Vm Go.Proofs.Ytoniejpbgidmfaa.Vo Go.Proofs.Ytoniejpbgidmfaa.Bw Go.Proofs.Ytoniejpbgidmfaa.Wr Go.Proofs.Ytoniejpbgidmfaa.Wc Go.Proofs.Ytoniejpbgidmfaa.Ww Go.Proofs.Ytoniejpbgidmfaa.Wx Go.Proofs.Ytoniejpbgidmfaa.Wp Go.Proofs.Ytoniejpbgidmfaa.Wn Go.Proofs.Ytoniejpbgidmfaa.Wo Go.Proofs.Ytoniejpbgidmfaa.Wd Go.Proofs.Ytoniejpbgidmfaa.We Go.Proofs.Ytoniejpbgidmfaa.Wf Go.Proofs.Ytoniejpbgidmfaa.Wk

/-- The program's window at g holds c, the reference's at r holds S; all that was there at the start is as it was. -/
structure mid (W w : World) (g r : Nat) (c : List UInt8) (S : ByteArray) : Prop where
  h : holds W.heap.size w g c
  q : rwin w r S
  r0 : W.heap.size ≤ r
  b : Below W.heap.size W w

/-- A block of another type is none of the window's. -/
theorem apart {base : Nat} {w : World} {g : Nat} {v : Value} {l : List UInt8} {x : Nat} (h : win base w g v l x) {k : Nat} {t : TypeId} {cs : Array Value} (hk : Blk w k t cs) (h1 : t ≠ 45) (h2 : t ≠ 5) : ¬ own g v k := by
  rintro (rfl | e)
  · exact Blk.apart hk h.b h1 rfl
  · exact own_apart h.o hk (fun e => h2 e.symm) k e rfl

section
variable {W w : World} {g r : Nat} {c : List UInt8} {S : ByteArray}
theorem mid.below {w' : World} (K : mid W w g r c S) (k : Below w.heap.size w w') : mid W w' g r c S :=
  ⟨K.h.below k, K.q.below k, K.r0, K.b.trans (k.mono K.b.size)⟩
theorem drew_below (w : World) : Below w.heap.size w w.drew := ⟨rfl, rfl, rfl, Nat.le_refl _, fun _ _ => rfl⟩
theorem mid.drew (K : mid W w g r c S) : mid W w.drew g r c S := K.below (drew_below w)
theorem mid.draws (K : mid W w g r c S) (n : Nat) : mid W (w.drewN n) g r c S := K.below (below_draws w n)
theorem mid.cell (K : mid W w g r c S) : w.cell? ⟨r, 0, none⟩ = some (.string S) := Blk.cell K.q 0
theorem mid.frozen (K : mid W w g r c S) : w.frozen? ⟨r, 0, none⟩ = false := Blk.frozen K.q 0
theorem mid.size (K : mid W w g r S.data.toList S) : S.size ≤ 32768 := by rw [← size_len]; exact K.h.len
/-- The reference's has changed alone. -/
theorem mid.ref {w' : World} {S' : ByteArray} (K : mid W w g r c S) (o : Only (fun k => k = r) w w') (q : rwin w' r S') : mid W w' g r c S' := by
  obtain ⟨v, l, x, h1, h2⟩ := K.h
  refine ⟨⟨v, l, x, h1.only o (fun i hi e => ?_), h2⟩, q, K.r0, o.below K.b K.b.size (fun i hi => by rw [hi]; exact K.r0)⟩
  subst e
  exact apart h1 K.q (by decide) (by decide) hi
/-- v.S = "". -/
theorem mid.zero (K : mid W w g r [] S) : mid W (w.setCell ⟨r, 0, none⟩ (.string ⟨#[]⟩)) g r (⟨#[]⟩ : ByteArray).data.toList ⟨#[]⟩ :=
  K.ref ((Only.refl (fun k => k = r) w).store (p := ⟨r, 0, none⟩) (.inl rfl) _) (Blk.store K.q 0 _)

theorem call_put (K : mid W w g r c S) (T : ByteArray) (hT : T.size ≤ 1000000) :
    Calls Try.prog 12 #[.pointer (some ⟨g, 0, none⟩), .string T] w fun e w' => e = .returned (.tuple #[]) ∧ mid W w' g r (Wm.put 32768 c T.data.toList) S := by
  obtain ⟨v, l, x, h1, h2⟩ := K.h
  subst h2
  exact (Put_any h1 T (by omega)).mono (fun _ w' ⟨h3, v', l', x', h4, h5, h6, h7⟩ => ⟨h3, ⟨⟨v', l', x', h4, h5⟩, K.q.only h6 (apart h1 K.q (by decide) (by decide)), K.r0, h6.below K.b K.b.size h1.lo⟩⟩)
theorem call_rput (K : mid W w g r c S) (T : ByteArray) (hS : S.size ≤ 1000000) (hT : T.size ≤ 1000000) :
    Calls Try.prog 9 #[.pointer (some ⟨r, 0, none⟩), .string T] w fun e w' => e = .returned (.tuple #[]) ∧ ∃ S', S'.data.toList = Wm.put 32768 S.data.toList T.data.toList ∧ mid W w' g r c S' :=
  (rPut_any K.q T hS hT).mono (fun _ _ ⟨h1, s', h2, h3, h4⟩ => ⟨h1, s', h3, K.ref h4 h2⟩)

/-- Copy, refused. -/
theorem call_copy_no (K : mid W w g r S.data.toList S) (d n : Int) (he : copE S.size d n ≠ 0) :
    Calls Try.prog 13 #[.pointer (some ⟨g, 0, none⟩), .int .i64 d, .int .i64 n] w fun e w' => e = .returned (.tuple #[.string ⟨#[]⟩, .int .i64 (copE S.size d n)]) ∧ w = w' := by
  have h := hCopy_no K.h d n (by rw [size_len]; exact he)
  rw [size_len] at h
  exact h
theorem call_copy_ok (K : mid W w g r S.data.toList S) {D N : Nat} (hN : N ≤ 65536) (hD : 1 ≤ D) (hc : D ≤ S.size) {q : Nat} {cs : Array Value} (hq : Blk w q 31 cs) :
    Calls Try.prog 13 #[.pointer (some ⟨g, 0, none⟩), .int .i64 D, .int .i64 N] w fun e w' => e = .returned (.tuple #[.string ⟨(Wm.out S.data.toList D N).toArray⟩, .int .i64 0]) ∧ mid W w' g r (Wm.put 32768 S.data.toList (Wm.out S.data.toList D N)) S ∧ Blk w' q 31 cs := by
  obtain ⟨v, l, x, h1, h2⟩ := K.h
  have e : l.length = S.size := by rw [← cont_length, h2, size_len]
  rw [← h2]
  exact (Copy_ok h1 hN hD (by rw [e]; exact hc)).mono (fun _ w' ⟨h3, v', l', x', h4, h5, h6, h7⟩ => ⟨h3, ⟨⟨v', l', x', h4, h5⟩, K.q.only h6 (apart h1 K.q (by decide) (by decide)), K.r0, h6.below K.b K.b.size h1.lo⟩, hq.only h6 (apart h1 hq (by decide) (by decide))⟩)
theorem call_rcopy_no (K : mid W w g r c S) (d n : Int) (he : copE S.size d n ≠ 0) :
    Calls Try.prog 14 #[.pointer (some ⟨r, 0, none⟩), .int .i64 d, .int .i64 n] w fun e w' => e = .returned (.tuple #[.string ⟨#[]⟩, .int .i64 (copE S.size d n)]) ∧ w = w' := rCopy_no K.q d n he
theorem call_rcopy_ok (K : mid W w g r c S) (hS : S.size ≤ 100000) {D N : Nat} (hN : N ≤ 65536) (hD : 1 ≤ D) (hc : D ≤ S.size) :
    Calls Try.prog 14 #[.pointer (some ⟨r, 0, none⟩), .int .i64 D, .int .i64 N] w fun e w' => e = .returned (.tuple #[.string ⟨(Wm.out S.data.toList D N).toArray⟩, .int .i64 0]) ∧ ∃ S', S'.data.toList = Wm.put 32768 S.data.toList (Wm.out S.data.toList D N) ∧ mid W w' g r c S' :=
  (rCopy_ok K.q hS hN hD hc).mono (fun _ _ ⟨h1, s', h2, h3, h4⟩ => ⟨h1, s', h3, K.ref h4 h2⟩)

/-- Last. -/
theorem call_last (K : mid W w g r S.data.toList S) (n : Int) :
    Calls Try.prog 15 #[.pointer (some ⟨g, 0, none⟩), .int .i64 n] w fun e w' => e = .returned (.string ⟨(Wm.lastN n.toNat S.data.toList).toArray⟩) ∧ Below w.heap.size w w' := hLast K.h n
theorem call_rlast (K : mid W w g r c S) (n : Int) (hS : S.size ≤ 1000000) :
    Calls Try.prog 16 #[.pointer (some ⟨r, 0, none⟩), .int .i64 n] w fun e w' => e = .returned (.string ⟨(Wm.lastN n.toNat S.data.toList).toArray⟩) ∧ Below w.heap.size w w' :=
  (rLast_any K.q n hS).mono (fun _ w' ⟨h1, m, h2⟩ => ⟨h1, by rw [h2]; exact below_draws w m⟩)
theorem call_last40 (K : mid W w g r S.data.toList S) :
    Calls Try.prog 15 #[.pointer (some ⟨g, 0, none⟩), .int .i64 40000] w fun e w' => e = .returned (.string S) ∧ Below w.heap.size w w' := by
  have h := call_last K 40000
  have hs := K.size
  rw [Wm.lastN_all (by rw [size_len]; have : (40000 : Int).toNat = 40000 := rfl; omega), str_eq rfl] at h
  exact h
theorem call_len (K : mid W w g r S.data.toList S) :
    Calls Try.prog 19 #[.pointer (some ⟨g, 0, none⟩)] w fun e w' => e = .returned (.int .i64 S.size) ∧ w = w' := by
  have h := hLen K.h
  rw [size_len] at h
  exact h
theorem call_clear (K : mid W w g r c S) :
    Calls Try.prog 17 #[.pointer (some ⟨g, 0, none⟩)] w fun e w' => e = .returned (.tuple #[]) ∧ mid W w' g r [] S := by
  obtain ⟨v, l, x, h1, h2⟩ := K.h
  exact (Clear_any h1).mono (fun _ w' ⟨h3, v', h4, h5, h6⟩ => ⟨h3, ⟨⟨v', [], 0, h4, rfl⟩, K.q.only h5 (apart h1 K.q (by decide) (by decide)), K.r0, h5.below K.b K.b.size h1.lo⟩⟩)

/-- A window and its twin. -/
def twins (W w : World) (g t r : Nat) (c : List UInt8) (S : ByteArray) : Prop := ∃ M v l x, win W.heap.size w g v l x ∧ (∀ i, own g v i → i < M) ∧ W.heap.size ≤ M ∧ holds M w t c ∧ rwin w r S ∧ W.heap.size ≤ r ∧ Below W.heap.size W w
theorem call_twin (K : mid W w g r c S) :
    Calls Try.prog 18 #[.pointer (some ⟨g, 0, none⟩)] w fun e w' => ∃ t, e = .returned (.pointer (some ⟨t, 0, none⟩)) ∧ twins W w' g t r c S := by
  obtain ⟨v, l, x, h1, h2⟩ := K.h
  subst h2
  exact (Twin_any h1).mono (fun _ w' ⟨t, v', l', x', h3, h4, h5, h6⟩ => ⟨t, h3, w.heap.size, v, l, x, h1.below h6, h1.hi, K.b.size, ⟨v', l', x', h4, h5⟩, K.q.below h6, K.r0, K.b.trans (h6.mono K.b.size)⟩)
theorem call_left {t : Nat} (K : twins W w g t r c S) (T : ByteArray) (hT : T.size ≤ 1000000) :
    Calls Try.prog 12 #[.pointer (some ⟨g, 0, none⟩), .string T] w fun e w' => e = .returned (.tuple #[]) ∧ mid W w' t r c S := by
  obtain ⟨M, v, l, x, h1, hM, hW, ⟨v2, l2, x2, h2, h2c⟩, hq, hr, hb⟩ := K
  exact (Put_any h1 T (by omega)).mono (fun _ w' ⟨h3, v', l', x', h4, h5, h6, h7⟩ => ⟨h3, ⟨⟨v2, l2, x2, win_mono (h2.only h6 (fun i hi e => by have := hM i e; have := h2.lo i hi; omega)) hW, h2c⟩, hq.only h6 (apart h1 hq (by decide) (by decide)), hr, h6.below hb hb.size h1.lo⟩⟩)
end
end Go.Proofs.Ytoniejpbgidmfaa.Wh
