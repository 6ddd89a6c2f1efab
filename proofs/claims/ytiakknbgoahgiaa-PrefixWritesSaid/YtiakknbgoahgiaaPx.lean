/-
  Two writers with the same bits, the program's and the reference's, in blocks of their own; prefix.Write and the reference's, called one behind the other.
  Conditions: as each theorem says.
-/
import Derived.Test.YtiakknbgoahgiaaPi
import Derived.Test.YtiakknbgoahgiaaBk
import Derived.Test.YtiakknbgoahgiaaBf
namespace Go.Proofs.Ytiakknbgoahgiaa.Px
open Go.RowKit Go.Proofs.Ytiakknbgoahgiaa.Vm Go.Proofs.Ytiakknbgoahgiaa.Vo Go.Proofs.Ytiakknbgoahgiaa.Bm Go.Proofs.Ytiakknbgoahgiaa.Bo Go.Proofs.Ytiakknbgoahgiaa.Bt Go.Proofs.Ytiakknbgoahgiaa.Bw Go.Proofs.Ytiakknbgoahgiaa.Br Go.Proofs.Ytiakknbgoahgiaa.Bp Go.Proofs.Ytiakknbgoahgiaa.Bs Go.Proofs.Ytiakknbgoahgiaa.Bv Go.Proofs.Ytiakknbgoahgiaa.Bx Go.Proofs.Ytiakknbgoahgiaa.Bk Go.Proofs.Ytiakknbgoahgiaa.Be Go.Proofs.Ytiakknbgoahgiaa.Bf Go.Proofs.Ytiakknbgoahgiaa.Na Go.Proofs.Ytiakknbgoahgiaa.Nm Go.Proofs.Ytiakknbgoahgiaa.Ne Go.Proofs.Ytiakknbgoahgiaa.Pw Go.Proofs.Ytiakknbgoahgiaa.Pi

/-- Both writers, with the same bits, in blocks of their own. -/
structure both (w wr : World) (g h : Nat) (v vb : Value) (l bs : List UInt8) (z : Nat) : Prop where
  t : wt w.heap.size wr g v l z
  r : rw' w.heap.size wr h vb bs
  len : bs.length = z
  n : bitN bs = num l
  sep : ∀ i, v.ownBlock = some i → vb.ownBlock = some i → False
  g : w.heap.size ≤ g
  h : w.heap.size ≤ h
  b : Below w.heap.size w wr
/-- .. behind the program's call. -/
structure mid (w wr : World) (g h : Nat) (v vb : Value) (l bs : List UInt8) (z : Nat) : Prop where
  t : wt w.heap.size wr g v l z
  r : rw' w.heap.size wr h vb bs
  sep : ∀ i, v.ownBlock = some i → vb.ownBlock = some i → False
  g : w.heap.size ≤ g
  h : w.heap.size ≤ h
  b : Below w.heap.size w wr
theorem both.mid' {w wr : World} {g h : Nat} {v vb : Value} {l bs : List UInt8} {z : Nat} (K : both w wr g h v vb l bs z) : mid w wr g h v vb l bs z := ⟨K.t, K.r, K.sep, K.g, K.h, K.b⟩
theorem rw_only {S : Nat → Prop} {base : Nat} {w w' : World} {g : Nat} {v : Value} {bs : List UInt8} (h : rw' base w g v bs) (k : Only S w w') (hg : ¬ S g) (hv : ∀ i, v.ownBlock = some i → ¬ S i) : rw' base w' g v bs :=
  ⟨Blk.only h.b k hg, own_only h.o k hv, h.ok⟩
theorem mid.below {w wr w2 : World} {g h : Nat} {v vb : Value} {l bs : List UInt8} {z : Nat} (K : mid w wr g h v vb l bs z) (k : Below wr.heap.size wr w2) : mid w w2 g h v vb l bs z :=
  ⟨wt_only (S := fun _ => False) K.t (Only.of_below k) (fun e => e) (fun _ _ e => e), rw_only (S := fun _ => False) K.r (Only.of_below k) (fun e => e) (fun _ _ e => e), K.sep, K.g, K.h, K.b.trans (k.mono K.b.size)⟩
theorem mid.prog {w wr w2 : World} {g h : Nat} {v vb v2 : Value} {l bs l2 : List UInt8} {z z2 : Nat} (K : mid w wr g h v vb l bs z) (o : Only (Bv.own g v) wr w2) (t2 : wt w.heap.size w2 g v2 l2 z2) (la : later wr v v2) : mid w w2 g h v2 vb l2 bs z2 := by
  have hgh : h ≠ g := Blk.apart K.r.b K.t.b (by decide)
  refine ⟨t2, rw_only K.r o (fun e => ?_) (fun i hi e => ?_), fun i h1 h2 => ?_, K.g, K.h, o.below K.b K.b.size (fun i hi => ?_)⟩
  · rcases e with e | e
    · exact hgh e
    · exact own_apart K.t.o K.r.b (by decide) h e rfl
  · rcases e with rfl | e
    · exact own_apart K.r.o K.t.b (by decide) i hi rfl
    · exact K.sep i e hi
  · rcases la with la | ⟨k, hk, la⟩
    · exact K.sep i (by rw [← la]; exact h1) h2
    · have h3 := (K.r.o.lt i h2).2
      rw [la] at h1
      injection h1 with h1
      omega
  · rcases hi with rfl | hi
    · exact K.g
    · exact (K.t.o.lt i hi).1
theorem mid.ref {w wr w2 : World} {g h : Nat} {v vb vb2 : Value} {l bs bs2 : List UInt8} {z : Nat} (K : mid w wr g h v vb l bs z) (o : Only (Bv.own h vb) wr w2) (r2 : rw' w.heap.size w2 h vb2 bs2) (la : later wr vb vb2) : mid w w2 g h v vb2 l bs2 z := by
  have hgh : h ≠ g := Blk.apart K.r.b K.t.b (by decide)
  refine ⟨wt_only K.t o (fun e => ?_) (fun i hi e => ?_), r2, fun i h1 h2 => ?_, K.g, K.h, o.below K.b K.b.size (fun i hi => ?_)⟩
  · rcases e with e | e
    · exact hgh e.symm
    · exact own_apart K.r.o K.t.b (by decide) g e rfl
  · rcases e with rfl | e
    · exact own_apart K.t.o K.r.b (by decide) i hi rfl
    · exact K.sep i hi e
  · rcases la with la | ⟨k, hk, la⟩
    · exact K.sep i h1 (by rw [← la]; exact h2)
    · have h3 := (K.t.o.lt i h1).2
      rw [la] at h2
      injection h2 with h2
      omega
  · rcases hi with rfl | hi
    · exact K.h
    · exact (K.r.o.lt i hi).1
theorem wt_drews {base : Nat} {w : World} {g : Nat} {v : Value} {l : List UInt8} {z : Nat} (h : wt base w g v l z) : wt base w.drew g v l z := ⟨h.b, h.o, h.lt, h.len⟩
theorem mid.drew {w wr : World} {g h : Nat} {v vb : Value} {l bs : List UInt8} {z : Nat} (K : mid w wr g h v vb l bs z) : mid w wr.drew g h v vb l bs z := ⟨wt_drews K.t, ⟨K.r.b, K.r.o, K.r.ok⟩, K.sep, K.g, K.h, K.b.drew⟩
theorem both.of {w wr : World} {g h : Nat} {v vb : Value} {l bs : List UInt8} {z : Nat} (K : mid w wr g h v vb l bs z) (h1 : bs.length = z) (h2 : bitN bs = num l) : both w wr g h v vb l bs z := ⟨K.t, K.r, h1, h2, K.sep, K.g, K.h, K.b⟩
theorem both.below {w wr w2 : World} {g h : Nat} {v vb : Value} {l bs : List UInt8} {z : Nat} (K : both w wr g h v vb l bs z) (k : Below wr.heap.size wr w2) : both w w2 g h v vb l bs z := both.of (K.mid'.below k) K.len K.n
theorem both.row {w wr : World} {g h : Nat} {v vb : Value} {l bs : List UInt8} {z : Nat} (K : both w wr g h v vb l bs z) : ∃ A cap, vb = .slice A z cap := by
  obtain ⟨A, cap, e⟩ := row_form K.r.o
  rw [K.len] at e
  exact ⟨A, cap, e⟩
theorem call_len {w wr : World} {g h : Nat} {v vb : Value} {l bs : List UInt8} {z : Nat} (K : both w wr g h v vb l bs z) : Calls Try.prog 20 #[.pointer (some ⟨g, 0, none⟩)] wr.drew fun e w' => e = .returned (.int .i64 z) ∧ wr.drew = w' := Bx.Len_any (w := wr.drew) K.t.b
theorem call_text {w wr : World} {g h : Nat} {v vb : Value} {l bs : List UInt8} {z : Nat} (K : both w wr g h v vb l bs z) : Calls Try.prog 21 #[.pointer (some ⟨g, 0, none⟩)] wr.drew fun e w' => e = .returned (.string ⟨l.toArray⟩) ∧ wr.drew = w' := Bx.Text_any (wt_drews K.t)
theorem call_rtext {w wr : World} {g h : Nat} {v vb : Value} {l bs : List UInt8} {z : Nat} (K : both w wr g h v vb l bs z) (hz : z ≤ 70368744177664) :
    Calls Try.prog 22 #[.pointer (some ⟨h, 0, none⟩)] wr.drew fun e w' => e = .returned (.string ⟨l.toArray⟩) ∧ Below wr.heap.size wr w' :=
  (rwText_any _ K.mid'.drew.r (by rw [K.len]; exact hz)).mono fun _ _ ⟨l', he, hn, hl, hb⟩ => by
    have e : l' = l := num_inj _ _ (by rw [hl, K.len, K.t.len]) (by rw [hn, K.n])
    subst e
    exact ⟨he, (Below.refl _ _).drew.trans hb⟩
theorem rkeep {w wr w6 : World} {g h : Nat} {v vb : Value} {l bs : List UInt8} {z : Nat} (K : Hid (both w wr g h v vb l bs z)) (k : Below wr.heap.size wr w6) : w6.cell? ⟨h, 0, none⟩ = some vb := (Blk.below K.out.r.b k).cell 0


theorem wrZ_le (n : Nat) (f : Nat → Int) (y : Int) (z : Nat) : wrZ n f y z ≤ z + 15 := by
  unfold wrZ
  rcases wrE_cases n f y with ⟨he, hv⟩ | ⟨_, hv, _⟩ | ⟨he, hv, k, rfl, hk, h0⟩
  · rw [if_neg (by rw [hv]; exact he)]; omega
  · rw [if_neg (by rw [hv]; decide)]; omega
  · rw [if_pos hv]
    have := L_le (err_zero he).2.1 ((k : Int).toNat)
    omega
theorem call_write {w u : World} {A : Option Addr} {n cap : Nat} {f : Nat → Int} {g h : Nat} {v vb : Value} {l bs : List UInt8} {z : Nat} (y : Int) (hn : n ≤ 9223372036854775807) (hr : row w A n f) (K : mid w u g h v vb l bs z) (hz : z ≤ 562949953421312) :
    Calls Try.prog 18 #[.pointer (some ⟨g, 0, none⟩), .slice A n cap, .int .i64 y] u fun e w' => e = .returned (.int .i64 (wrE n f y)) ∧ ∃ v' l', num l' = wrN n f y (num l) z ∧ mid w w' g h v' vb l' bs (wrZ n f y z) :=
  (Write_any y hn (Lib.hid hr) (Lib.hid K.b) K.g (Lib.hid K.t) hz).mono fun _ _ ⟨he, v', l', t', n', o', a'⟩ => ⟨he, v', l', n', K.prog o' t' a'⟩
theorem call_rwrite {w u : World} {A : Option Addr} {n cap : Nat} {f : Nat → Int} {g h : Nat} {v vb : Value} {l bs : List UInt8} {z : Nat} (y : Int) (hn : n ≤ 9223372036854775807) (hr : row w A n f) (K : mid w u g h v vb l bs z) (hz : bs.length ≤ 70368744177664) :
    Calls Try.prog 19 #[.pointer (some ⟨h, 0, none⟩), .slice A n cap, .int .i64 y] u fun e w' => e = .returned (.int .i64 (wrE n f y)) ∧ ∃ v' bs', bs'.length = wrZ n f y bs.length ∧ bitN bs' = wrN n f y (bitN bs) bs.length ∧ mid w w' g h v v' l bs' z :=
  (rWrite_any w.heap.size y hn (Lib.hid (hr.below K.b)) (Lib.hid K.r) K.b.size hz).mono fun _ _ ⟨he, v', bs', r', l', n', o', a'⟩ => ⟨he, v', bs', l', n', K.ref o' r' a'⟩
/-- Both calls: the writers have the same bits again. -/
theorem wrote_both {w wr u' : World} {n : Nat} {f : Nat → Int} {g h : Nat} {v vb v' vb' : Value} {l bs l' bs' : List UInt8} {z : Nat} {y : Int} (K : both w wr g h v vb l bs z) (n1 : num l' = wrN n f y (num l) z) (l2 : bs'.length = wrZ n f y bs.length) (n2 : bitN bs' = wrN n f y (bitN bs) bs.length) (M : mid w u' g h v' vb' l' bs' (wrZ n f y z)) : both w u' g h v' vb' l' bs' (wrZ n f y z) :=
  both.of M (by rw [l2, K.len]) (by rw [n2, n1, K.n, K.len])
theorem text_ref {w u : World} {g h : Nat} {v vb : Value} {l bs : List UInt8} {z : Nat} (K : both w u g h v vb l bs z) (hz : z ≤ 70368744177664) :
    Calls Try.prog 22 #[.pointer (some ⟨h, 0, none⟩)] u fun e w' => e = .returned (.string ⟨l.toArray⟩) ∧ Below u.heap.size u w' :=
  (rwText_any _ K.r (by rw [K.len]; exact hz)).mono fun _ _ ⟨l', he, hn, hl, hb⟩ => by
    have e : l' = l := num_inj _ _ (by rw [hl, K.len, K.t.len]) (by rw [hn, K.n])
    subst e
    exact ⟨he, hb⟩
end Go.Proofs.Ytiakknbgoahgiaa.Px
