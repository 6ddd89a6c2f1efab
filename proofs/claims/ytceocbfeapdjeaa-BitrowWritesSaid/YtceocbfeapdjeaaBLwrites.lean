/-
  collimatorlaw04.BitrowWrites returns true for every script: whatever is written, answers and bits are the document's.
  Conditions: none.
-/
import Derived.Test.YtceocbfeapdjeaaBk
import Derived.Test.YtceocbfeapdjeaaBy
import Derived.Test.YtceocbfeapdjeaaBf
import Derived.Test.YtceocbfeapdjeaaLw
import Derived.Deep.RegionHeld3
namespace Go.Proofs.Ytceocbfeapdjeaa.bitrowWrites
open Go.ChangeShapes Go.WideShapes Go.ChangeAt Go.RowKit
open Go.ChangeMaps (open_string shut_string)
open Go.Proofs.Ytceocbfeapdjeaa.Lw Go.Proofs.Ytceocbfeapdjeaa.Vm Go.Proofs.Ytceocbfeapdjeaa.Vo Go.Proofs.Ytceocbfeapdjeaa.Bm Go.Proofs.Ytceocbfeapdjeaa.Bo Go.Proofs.Ytceocbfeapdjeaa.Bt Go.Proofs.Ytceocbfeapdjeaa.Bw Go.Proofs.Ytceocbfeapdjeaa.Br Go.Proofs.Ytceocbfeapdjeaa.Bp Go.Proofs.Ytceocbfeapdjeaa.Bs Go.Proofs.Ytceocbfeapdjeaa.Bv Go.Proofs.Ytceocbfeapdjeaa.Bx Go.Proofs.Ytceocbfeapdjeaa.Bk Go.Proofs.Ytceocbfeapdjeaa.By Go.Proofs.Ytceocbfeapdjeaa.Be Go.Proofs.Ytceocbfeapdjeaa.Bf


theorem own : ownKnob Try.prog.godebug = none := by kernel_rfl
theorem laidOut : laidOutB Try.prog = true := by kernel_rfl

/-- The script's cells. -/
def cellsOf (w : World) (A : Option Addr) (len : Nat) : Prop := ∀ i, i < len → ∃ (b off : Nat) (x y z : Int) (s : ByteArray), A = some ⟨b, off, none⟩ ∧ b < w.heap.size ∧ w.cell? ⟨b, off + i * 4, none⟩ = some (.int .i64 x) ∧ w.cell? ⟨b, off + i * 4 + 1, none⟩ = some (.int .i64 y) ∧ w.cell? ⟨b, off + i * 4 + 2, none⟩ = some (.int .i64 z) ∧ w.cell? ⟨b, off + i * 4 + 3, none⟩ = some (.string s)

/-- Both writers, with the same bits, in blocks of their own. -/
structure both (w wr : World) (g h : Nat) (v vb : Value) (l bs : List UInt8) (z : Nat) : Prop where
  t : wt w.heap.size wr g v l z
  r : rw' w.heap.size wr h vb bs
  len : bs.length = z
  n : bitN bs = num l
  sep : ∀ i, v.ownBlock = some i → vb.ownBlock = some i → False
  g : w.heap.size ≤ g
  h : w.heap.size ≤ h
  b : Below w.heap.size w wr
/-- .. behind the program's call. -/
structure mid (w wr : World) (g h : Nat) (v vb : Value) (l bs : List UInt8) (z : Nat) : Prop where
  t : wt w.heap.size wr g v l z
  r : rw' w.heap.size wr h vb bs
  sep : ∀ i, v.ownBlock = some i → vb.ownBlock = some i → False
  g : w.heap.size ≤ g
  h : w.heap.size ≤ h
  b : Below w.heap.size w wr
theorem both.mid' {w wr : World} {g h : Nat} {v vb : Value} {l bs : List UInt8} {z : Nat} (K : both w wr g h v vb l bs z) : mid w wr g h v vb l bs z := ⟨K.t, K.r, K.sep, K.g, K.h, K.b⟩
theorem rw_only {S : Nat → Prop} {base : Nat} {w w' : World} {g : Nat} {v : Value} {bs : List UInt8} (h : rw' base w g v bs) (k : Only S w w') (hg : ¬ S g) (hv : ∀ i, v.ownBlock = some i → ¬ S i) : rw' base w' g v bs :=
  ⟨Blk.only h.b k hg, own_only h.o k hv, h.ok⟩
theorem mid.below {w wr w2 : World} {g h : Nat} {v vb : Value} {l bs : List UInt8} {z : Nat} (K : mid w wr g h v vb l bs z) (k : Below wr.heap.size wr w2) : mid w w2 g h v vb l bs z :=
  ⟨wt_only (S := fun _ => False) K.t (Only.of_below k) (fun e => e) (fun _ _ e => e), rw_only (S := fun _ => False) K.r (Only.of_below k) (fun e => e) (fun _ _ e => e), K.sep, K.g, K.h, K.b.trans (k.mono K.b.size)⟩
theorem mid.prog {w wr w2 : World} {g h : Nat} {v vb v2 : Value} {l bs l2 : List UInt8} {z z2 : Nat} (K : mid w wr g h v vb l bs z) (o : Only (Bv.own g v) wr w2) (t2 : wt w.heap.size w2 g v2 l2 z2) (la : later wr v v2) : mid w w2 g h v2 vb l2 bs z2 := by
  have hgh : h ≠ g := Blk.apart K.r.b K.t.b (by decide)
  refine ⟨t2, rw_only K.r o (fun e => ?_) (fun i hi e => ?_), fun i h1 h2 => ?_, K.g, K.h, o.below K.b K.b.size (fun i hi => ?_)⟩
  · rcases e with e | e
    · exact hgh e
    · exact own_apart K.t.o K.r.b (by decide) h e rfl
  · rcases e with rfl | e
    · exact own_apart K.r.o K.t.b (by decide) i hi rfl
    · exact K.sep i e hi
  · rcases la with la | ⟨k, hk, la⟩
    · exact K.sep i (by rw [← la]; exact h1) h2
    · have h3 := (K.r.o.lt i h2).2
      rw [la] at h1
      injection h1 with h1
      omega
  · rcases hi with rfl | hi
    · exact K.g
    · exact (K.t.o.lt i hi).1
theorem mid.ref {w wr w2 : World} {g h : Nat} {v vb vb2 : Value} {l bs bs2 : List UInt8} {z : Nat} (K : mid w wr g h v vb l bs z) (o : Only (Bv.own h vb) wr w2) (r2 : rw' w.heap.size w2 h vb2 bs2) (la : later wr vb vb2) : mid w w2 g h v vb2 l bs2 z := by
  have hgh : h ≠ g := Blk.apart K.r.b K.t.b (by decide)
  refine ⟨wt_only K.t o (fun e => ?_) (fun i hi e => ?_), r2, fun i h1 h2 => ?_, K.g, K.h, o.below K.b K.b.size (fun i hi => ?_)⟩
  · rcases e with e | e
    · exact hgh e.symm
    · exact own_apart K.r.o K.t.b (by decide) g e rfl
  · rcases e with rfl | e
    · exact own_apart K.t.o K.r.b (by decide) i hi rfl
    · exact K.sep i hi e
  · rcases la with la | ⟨k, hk, la⟩
    · exact K.sep i h1 (by rw [← la]; exact h2)
    · have h3 := (K.t.o.lt i h1).2
      rw [la] at h2
      injection h2 with h2
      omega
  · rcases hi with rfl | hi
    · exact K.h
    · exact (K.r.o.lt i hi).1
/-- A block of another type stays. -/
theorem mid.apart {w wr : World} {g h q : Nat} {v vb : Value} {l bs : List UInt8} {z : Nat} {cs : Array Value} (K : mid w wr g h v vb l bs z) (hq : Blk wr q 52 cs) : ¬ Bv.own g v q ∧ ¬ Bv.own h vb q := by
  refine ⟨fun e => ?_, fun e => ?_⟩
  · rcases e with rfl | e
    · exact Blk.apart hq K.t.b (by decide) rfl
    · exact own_apart K.t.o hq (by decide) q e rfl
  · rcases e with rfl | e
    · exact Blk.apart hq K.r.b (by decide) rfl
    · exact own_apart K.r.o hq (by decide) q e rfl

theorem wt_drews {base : Nat} {w : World} {g : Nat} {v : Value} {l : List UInt8} {z : Nat} (h : wt base w g v l z) : wt base w.drew g v l z := ⟨h.b, h.o, h.lt, h.len⟩
theorem mid.drew {w wr : World} {g h : Nat} {v vb : Value} {l bs : List UInt8} {z : Nat} (K : mid w wr g h v vb l bs z) : mid w wr.drew g h v vb l bs z := ⟨wt_drews K.t, ⟨K.r.b, K.r.o, K.r.ok⟩, K.sep, K.g, K.h, K.b.drew⟩
theorem qkeep {w : World} {q : Nat} {x y n s : Value} (h : Hid (Blk w q 52 #[x, y, n, s])) : w.cell? ⟨q, 1, none⟩ = some y ∧ w.cell? ⟨q, 2, none⟩ = some n := ⟨h.out.cell 1, h.out.cell 2⟩
theorem putZ_le (z : Nat) (y n : Int) : putZ z y n ≤ z + 32 := by
  unfold putZ
  by_cases h : putE y n = 0
  · rw [if_pos h]
    rcases putE_cases y n with ⟨h1, _⟩ | ⟨h1, _⟩ | ⟨_, _, _, m, _, rfl, hm, _⟩
    · rw [h] at h1; cases h1
    · rw [h] at h1; cases h1
    · simp; omega
  · rw [if_neg h]; omega
/-- The program's call, and what is kept behind it. -/
theorem call_put {w w3 : World} {g h q : Nat} {v vb : Value} {l bs : List UInt8} {z : Nat} {cs : Array Value} (y n : Int) (K : mid w w3 g h v vb l bs z) (hq : Blk w3 q 52 cs) (hz : z ≤ 562949953421312) :
    Calls Try.prog 27 #[.pointer (some ⟨g, 0, none⟩), .int .i64 y, .int .i64 n] w3.drew fun e w' => e = .returned (.int .i64 (putE y n)) ∧ ∃ v' l', Hid (l'.length = (putZ z y n + 7) / 8) ∧ Hid (num l' = putN (num l) z y n) ∧ Hid (mid w w' g h v' vb l' bs (putZ z y n)) ∧ Hid (Blk w' q 52 cs) :=
  (Bx.Put_any _ y n K.drew.t K.b.size hz).mono fun _ _ ⟨he, v', l', t', n', o', a'⟩ => ⟨he, v', l', t'.len, n', K.drew.prog o' t' a', Blk.only (w := w3.drew) hq o' (K.apart hq).1⟩
theorem call_rput {w w3 : World} {g h q : Nat} {v vb : Value} {l bs : List UInt8} {z : Nat} {cs : Array Value} (y n : Int) (K : mid w w3 g h v vb l bs z) (hq : Blk w3 q 52 cs) (hz : bs.length ≤ 70368744177664) :
    Calls Try.prog 28 #[.pointer (some ⟨h, 0, none⟩), .int .i64 y, .int .i64 n] w3 fun e w' => e = .returned (.int .i64 (putE y n)) ∧ ∃ v' bs', Hid (bs'.length = putZ bs.length y n) ∧ Hid (bitN bs' = putN (bitN bs) bs.length y n) ∧ Hid (mid w w' g h v v' l bs' z) ∧ Hid (Blk w' q 52 cs) :=
  (rPut_any _ y n K.r K.b.size hz).mono fun _ _ ⟨he, v', bs', r', l', n', o', a'⟩ => ⟨he, v', bs', l', n', K.ref o' r' a', Blk.only hq o' (K.apart hq).2⟩

theorem call_code {w w3 : World} {g h q : Nat} {v vb : Value} {l bs : List UInt8} {z : Nat} {cs : Array Value} (y n : Int) (K : mid w w3 g h v vb l bs z) (hq : Blk w3 q 52 cs) (hz : z ≤ 562949953421312) :
    Calls Try.prog 29 #[.pointer (some ⟨g, 0, none⟩), .int .i64 y, .int .i64 n] w3.drew fun e w' => e = .returned (.int .i64 (putE y n)) ∧ ∃ v' l', Hid (l'.length = (putZ z y n + 7) / 8) ∧ Hid (num l' = codeN (num l) z y n) ∧ Hid (mid w w' g h v' vb l' bs (putZ z y n)) ∧ Hid (Blk w' q 52 cs) :=
  (Bx.Code_any _ y n K.drew.t K.b.size hz).mono fun _ _ ⟨he, v', l', t', n', o', a'⟩ => ⟨he, v', l', t'.len, n', K.drew.prog o' t' a', Blk.only (w := w3.drew) hq o' (K.apart hq).1⟩
theorem call_rcode {w w3 : World} {g h q : Nat} {v vb : Value} {l bs : List UInt8} {z : Nat} {cs : Array Value} (y n : Int) (K : mid w w3 g h v vb l bs z) (hq : Blk w3 q 52 cs) (hz : bs.length ≤ 70368744177664) :
    Calls Try.prog 30 #[.pointer (some ⟨h, 0, none⟩), .int .i64 y, .int .i64 n] w3 fun e w' => e = .returned (.int .i64 (putE y n)) ∧ ∃ v' bs', Hid (bs'.length = putZ bs.length y n) ∧ Hid (bitN bs' = codeN (bitN bs) bs.length y n) ∧ Hid (mid w w' g h v v' l bs' z) ∧ Hid (Blk w' q 52 cs) :=
  (rCode_any _ y n K.r K.b.size hz).mono fun _ _ ⟨he, v', bs', r', l', n', o', a'⟩ => ⟨he, v', bs', l', n', K.ref o' r' a', Blk.only hq o' (K.apart hq).2⟩

theorem call_align {w w3 : World} {g h q : Nat} {v vb : Value} {l bs : List UInt8} {z : Nat} {cs : Array Value} (K : mid w w3 g h v vb l bs z) (hq : Blk w3 q 52 cs) (hz : z ≤ 562949953421312) :
    Calls Try.prog 31 #[.pointer (some ⟨g, 0, none⟩)] w3 fun e w' => e = .returned (.tuple #[]) ∧ Hid (mid w w' g h v vb l bs (8 * l.length)) ∧ Hid (Blk w' q 52 cs) :=
  (Bx.wAlign_any _ K.t hz).mono fun _ _ ⟨he, t', o'⟩ => ⟨he, K.prog o' t' (.inl rfl), Blk.only hq o' (K.apart hq).1⟩
theorem call_ralign {w w3 : World} {g h q : Nat} {v vb : Value} {l bs : List UInt8} {z : Nat} {cs : Array Value} (K : mid w w3 g h v vb l bs z) (hq : Blk w3 q 52 cs) (hz : bs.length ≤ 70368744177664) :
    Calls Try.prog 32 #[.pointer (some ⟨h, 0, none⟩)] w3 fun e w' => e = .returned (.tuple #[]) ∧ ∃ v' bs', Hid (bs'.length = (bs.length + 7) / 8 * 8) ∧ Hid (bitN bs' = bitN bs) ∧ Hid (mid w w' g h v v' l bs' z) ∧ Hid (Blk w' q 52 cs) :=
  (rwAlign_any _ K.r K.b.size hz).mono fun _ _ ⟨he, v', bs', r', l', n', o', a'⟩ => ⟨he, v', bs', l', n', K.ref o' r' a', Blk.only hq o' (K.apart hq).2⟩
theorem call_bytes {w w3 : World} {g h q : Nat} {v vb : Value} {l bs : List UInt8} {z : Nat} {cs : Array Value} (s : ByteArray) (K : mid w w3 g h v vb l bs z) (hq : Blk w3 q 52 cs) (hz : z ≤ 281474976710656) (hs : s.size ≤ 70368744177664) :
    Calls Try.prog 33 #[.pointer (some ⟨g, 0, none⟩), .string s] w3 fun e w' => e = .returned (.tuple #[]) ∧ ∃ v', Hid (mid w w' g h v' vb (l ++ s.data.toList) bs (8 * (l.length + s.size))) ∧ Hid (Blk w' q 52 cs) :=
  (Bx.wBytes_any _ s K.t K.b.size hz hs).mono fun _ _ ⟨he, v', t', o', a'⟩ => ⟨he, v', K.prog o' t' a', Blk.only hq o' (K.apart hq).1⟩
theorem call_rbytes {w w3 : World} {g h q : Nat} {v vb : Value} {l bs : List UInt8} {z : Nat} {cs : Array Value} (s : ByteArray) (K : mid w w3 g h v vb l bs z) (hq : Blk w3 q 52 cs) (hz : bs.length ≤ 35184372088832) (hs : s.size ≤ 100000) :
    Calls Try.prog 34 #[.pointer (some ⟨h, 0, none⟩), .string s] w3 fun e w' => e = .returned (.tuple #[]) ∧ ∃ v' bs', Hid (bs'.length = (bs.length + 7) / 8 * 8 + 8 * s.size) ∧ Hid (bitN bs' = bitN bs + 2 ^ ((bs.length + 7) / 8 * 8) * num s.data.toList) ∧ Hid (mid w w' g h v v' l bs' z) ∧ Hid (Blk w' q 52 cs) :=
  (rwBytes_any _ s K.r K.b.size hz hs).mono fun _ _ ⟨he, v', bs', r', l', n', o', a'⟩ => ⟨he, v', bs', l', n', K.ref o' r' a', Blk.only hq o' (K.apart hq).2⟩
theorem both.of {w wr : World} {g h : Nat} {v vb : Value} {l bs : List UInt8} {z : Nat} (K : mid w wr g h v vb l bs z) (h1 : bs.length = z) (h2 : bitN bs = num l) : both w wr g h v vb l bs z := ⟨K.t, K.r, h1, h2, K.sep, K.g, K.h, K.b⟩
theorem both.below {w wr w2 : World} {g h : Nat} {v vb : Value} {l bs : List UInt8} {z : Nat} (K : both w wr g h v vb l bs z) (k : Below wr.heap.size wr w2) : both w w2 g h v vb l bs z := both.of (K.mid'.below k) K.len K.n
theorem both.row {w wr : World} {g h : Nat} {v vb : Value} {l bs : List UInt8} {z : Nat} (K : both w wr g h v vb l bs z) : ∃ A cap, vb = .slice A z cap := by
  obtain ⟨A, cap, e⟩ := row_form K.r.o
  rw [K.len] at e
  exact ⟨A, cap, e⟩
theorem call_len {w wr : World} {g h : Nat} {v vb : Value} {l bs : List UInt8} {z : Nat} (K : both w wr g h v vb l bs z) : Calls Try.prog 35 #[.pointer (some ⟨g, 0, none⟩)] wr.drew fun e w' => e = .returned (.int .i64 z) ∧ wr.drew = w' := Bx.Len_any (w := wr.drew) K.t.b
theorem call_text {w wr : World} {g h : Nat} {v vb : Value} {l bs : List UInt8} {z : Nat} (K : both w wr g h v vb l bs z) : Calls Try.prog 36 #[.pointer (some ⟨g, 0, none⟩)] wr.drew fun e w' => e = .returned (.string ⟨l.toArray⟩) ∧ wr.drew = w' := Bx.Text_any (wt_drews K.t)
theorem call_rtext {w wr : World} {g h : Nat} {v vb : Value} {l bs : List UInt8} {z : Nat} (K : both w wr g h v vb l bs z) (hz : z ≤ 70368744177664) :
    Calls Try.prog 37 #[.pointer (some ⟨h, 0, none⟩)] wr.drew fun e w' => e = .returned (.string ⟨l.toArray⟩) ∧ Below wr.heap.size wr w' :=
  (rwText_any _ K.mid'.drew.r (by rw [K.len]; exact hz)).mono fun _ _ ⟨l', he, hn, hl, hb⟩ => by
    have e : l' = l := num_inj _ _ (by rw [hl, K.len, K.t.len]) (by rw [hn, K.n])
    subst e
    exact ⟨he, (Below.refl _ _).drew.trans hb⟩
theorem rkeep {w wr w6 : World} {g h : Nat} {v vb : Value} {l bs : List UInt8} {z : Nat} (K : Hid (both w wr g h v vb l bs z)) (k : Below wr.heap.size wr w6) : w6.cell? ⟨h, 0, none⟩ = some vb := (Blk.below K.out.r.b k).cell 0

set_option maxHeartbeats 8000000 in
set_option maxRecDepth 100000 in
theorem walk (A : Option Addr) (len cap : Nat) (hl : len ≤ 9223372036854775807) (w : World) (HC : Hid (cellsOf w A len)) :
    Calls Try.prog 4 #[.slice A len cap] w fun e w' => e = .returned (.bool true) ∧ Below w.heap.size w w' := by
  go_enter Try.func4, Try.ntmps4
  go_wp2_with fail
  refine (Open_any _).mono ?_
  rintro e w1 ⟨g, rfl, t1, hg, b1⟩
  have T1 := Lib.hid t1
  have HG := Lib.hid hg
  have B1 := Lib.hid b1
  have R1 : Hid (rb (w1.alloc (.cells #[.slice none 0 0] 50)) w1.heap.size (.slice none 0 0)) := Lib.hid (Blk.fresh w1 _ _)
  have K0 : Hid (both w (w1.alloc (.cells #[.slice none 0 0] 50)) g w1.heap.size (.slice none 0 0) (.slice none 0 0) [] [] 0) := Lib.hid (by
    have hal : Only (fun _ => False) w1 (w1.alloc (.cells #[.slice none 0 0] 50)) := (Only.refl _ _).alloc _
    exact ⟨wt_only t1 hal (fun e => e) (fun _ _ e => e), ⟨R1.out, World.ownsRow_nil _ _ _ _, by simp⟩, rfl, rfl, fun i h1 _ => by simp [Value.ownBlock] at h1, by omega, b1.size, b1.alloc b1.size _⟩)
  clear t1 hg b1 T1 HG B1 R1
  go_wp2
  generalize w1.alloc (.cells #[.slice none 0 0] 50) = w2 at *
  generalize w1.heap.size = h at *
  go_loopw [5] (fun i wr => ∃ (j : Nat) (v vb : Value) (l bs : List UInt8) (z : Nat), i = .int .i64 j ∧ j ≤ len ∧ j ≤ 80 ∧ z ≤ 2000 * j ∧ Hid (both w wr g h v vb l bs z))
    (fun i _ => 80 - (intOf i).toNat)
  case atStart => exact ⟨0, _, _, _, _, 0, rfl, by omega, by omega, by omega, K0⟩
  case round =>
    obtain ⟨j, v, vb, l, bs, z, rfl, hj, hj80, hzj, K⟩ := hrel
    clear K0
    by_cases hgo : j < len ∧ j < 80
    · obtain ⟨hjl, hj8⟩ := hgo
      obtain ⟨b, off, x, y, n, s, rfl, hbl, cx, cy, cn, cs⟩ := HC.out j hjl
      have k0 : wr.cell? ⟨b, off + j * 4, none⟩ = some (.int .i64 x) := (K.out.b.cell (p := ⟨b, off + j * 4, none⟩) hbl).trans cx
      have k1 : wr.cell? ⟨b, off + j * 4 + 1, none⟩ = some (.int .i64 y) := (K.out.b.cell (p := ⟨b, off + j * 4 + 1, none⟩) hbl).trans cy
      have k2 : wr.cell? ⟨b, off + j * 4 + 2, none⟩ = some (.int .i64 n) := (K.out.b.cell (p := ⟨b, off + j * 4 + 2, none⟩) hbl).trans cn
      have k3 : wr.cell? ⟨b, off + j * 4 + 3, none⟩ = some (.string s) := (K.out.b.cell (p := ⟨b, off + j * 4 + 3, none⟩) hbl).trans cs
      clear cx cy cn cs
      by_cases hs : 200 < s.size
      · go_wp2
        go_roundw
        case rel => exact ⟨j + 1, v, vb, l, bs, z, by go_num, by omega, by omega, by omega, Lib.hid (K.out.below ((Below.refl _ _).alloc (Nat.le_refl _) _))⟩
        case measure => simp [intOf]; omega
      · rcases (show x = 0 ∨ x = 1 ∨ x = 2 ∨ (¬ x = 0 ∧ ¬ x = 1 ∧ ¬ x = 2) by omega) with rfl | rfl | rfl | ⟨h0, h1, h2⟩
        · have Q3 : Hid (Blk (wr.alloc (.cells #[.int .i64 0, .int .i64 y, .int .i64 n, .string s] 52)) wr.heap.size 52 #[.int .i64 0, .int .i64 y, .int .i64 n, .string s]) := Lib.hid (Blk.fresh wr _ _)
          have M3 := Lib.hid (K.out.mid'.below ((Below.refl _ _).alloc (Nat.le_refl _) (.cells #[.int .i64 0, .int .i64 y, .int .i64 n, .string s] 52)))
          go_wp2_with fail
          generalize wr.alloc (.cells #[.int .i64 0, .int .i64 y, .int .i64 n, .string s] 52) = w3 at *
          generalize wr.heap.size = q at *
          clear k0 k1 k2 k3
          have c1 : w3.cell? ⟨q, 1, none⟩ = some (.int .i64 y) := Q3.out.cell 1
          have c2 : w3.cell? ⟨q, 2, none⟩ = some (.int .i64 n) := Q3.out.cell 2
          have hz : z ≤ 562949953421312 := by omega
          have hzl : bs.length ≤ 70368744177664 := by rw [K.out.len]; omega
          go_region_held3 (fun w' => w'.cell? ⟨q, 1, none⟩ = some (.int .i64 y) ∧ w'.cell? ⟨q, 2, none⟩ = some (.int .i64 n))
            (first | exact ⟨c1, c2⟩ | assumption | (apply qkeep; assumption))
            (first | (go_at_call 27; refine (call_put y n M3.out Q3.out hz).mono ?_; rintro e w4 ⟨rfl, v4, l4, t4, n4, M4, Q4⟩) | (go_at_call 28; refine (call_rput y n M4.out Q4.out hzl).mono ?_; rintro e w5 ⟨rfl, v5, b5, l5, n5, M5, Q5⟩))
          have hp32 : putZ z y n ≤ z + 32 := putZ_le z y n
          have K5 : Hid (both w w5 g h v4 v5 l4 b5 (putZ z y n)) := Lib.hid (both.of M5.out (by rw [l5.out, K.out.len]) (by rw [n5.out, n4.out, K.out.n, K.out.len]))
          clear M5 l5 n5 n4 t4 M4 Q4 Q5 M3 Q3 K c1 c2
          generalize putZ z y n = Z at *
          go_wp2_with fail
          obtain ⟨A5, cap5, hv5⟩ := K5.out.row
          subst hv5
          have c5 : w5.cell? ⟨h, 0, none⟩ = some (.slice A5 Z cap5) := K5.out.r.b.c0
          have hZ5 : Z ≤ 70368744177664 := by omega
          go_wp2_with fail
          go_region_held3 (fun w' => w'.cell? ⟨h, 0, none⟩ = some (.slice A5 Z cap5))
            (first | exact c5 | assumption | (apply rkeep; assumption; assumption))
            (first | (go_at_call 35; refine (call_len K5.out).mono ?_; rintro e w6 ⟨rfl, rfl⟩) | (go_at_call 36; refine (call_text K5.out).mono ?_; rintro e w6 ⟨rfl, rfl⟩) | (go_at_call 37; refine (call_rtext K5.out hZ5).mono ?_; rintro e w6 ⟨rfl, b6⟩))
          have K6 := Lib.hid (K5.out.below b6)
          clear K5 b6 c5
          go_wp2
          go_roundw
          case rel => exact ⟨j + 1, _, _, l4, b5, Z, by go_num, by omega, by omega, by omega, K6⟩
          case measure => simp [intOf]; omega
        · have Q3 : Hid (Blk (wr.alloc (.cells #[.int .i64 1, .int .i64 y, .int .i64 n, .string s] 52)) wr.heap.size 52 #[.int .i64 1, .int .i64 y, .int .i64 n, .string s]) := Lib.hid (Blk.fresh wr _ _)
          have M3 := Lib.hid (K.out.mid'.below ((Below.refl _ _).alloc (Nat.le_refl _) (.cells #[.int .i64 1, .int .i64 y, .int .i64 n, .string s] 52)))
          go_wp2_with fail
          generalize wr.alloc (.cells #[.int .i64 1, .int .i64 y, .int .i64 n, .string s] 52) = w3 at *
          generalize wr.heap.size = q at *
          clear k0 k1 k2 k3
          have c1 : w3.cell? ⟨q, 1, none⟩ = some (.int .i64 y) := Q3.out.cell 1
          have c2 : w3.cell? ⟨q, 2, none⟩ = some (.int .i64 n) := Q3.out.cell 2
          have hz : z ≤ 562949953421312 := by omega
          have hzl : bs.length ≤ 70368744177664 := by rw [K.out.len]; omega
          go_region_held3 (fun w' => w'.cell? ⟨q, 1, none⟩ = some (.int .i64 y) ∧ w'.cell? ⟨q, 2, none⟩ = some (.int .i64 n))
            (first | exact ⟨c1, c2⟩ | assumption | (apply qkeep; assumption))
            (first | (go_at_call 29; refine (call_code y n M3.out Q3.out hz).mono ?_; rintro e w4 ⟨rfl, v4, l4, t4, n4, M4, Q4⟩) | (go_at_call 30; refine (call_rcode y n M4.out Q4.out hzl).mono ?_; rintro e w5 ⟨rfl, v5, b5, l5, n5, M5, Q5⟩))
          have hp32 : putZ z y n ≤ z + 32 := putZ_le z y n
          have K5 : Hid (both w w5 g h v4 v5 l4 b5 (putZ z y n)) := Lib.hid (both.of M5.out (by rw [l5.out, K.out.len]) (by rw [n5.out, n4.out, K.out.n, K.out.len]))
          clear M5 l5 n5 n4 t4 M4 Q4 Q5 M3 Q3 K c1 c2
          generalize putZ z y n = Z at *
          go_wp2_with fail
          obtain ⟨A5, cap5, hv5⟩ := K5.out.row
          subst hv5
          have c5 : w5.cell? ⟨h, 0, none⟩ = some (.slice A5 Z cap5) := K5.out.r.b.c0
          have hZ5 : Z ≤ 70368744177664 := by omega
          go_wp2_with fail
          go_region_held3 (fun w' => w'.cell? ⟨h, 0, none⟩ = some (.slice A5 Z cap5))
            (first | exact c5 | assumption | (apply rkeep; assumption; assumption))
            (first | (go_at_call 35; refine (call_len K5.out).mono ?_; rintro e w6 ⟨rfl, rfl⟩) | (go_at_call 36; refine (call_text K5.out).mono ?_; rintro e w6 ⟨rfl, rfl⟩) | (go_at_call 37; refine (call_rtext K5.out hZ5).mono ?_; rintro e w6 ⟨rfl, b6⟩))
          have K6 := Lib.hid (K5.out.below b6)
          clear K5 b6 c5
          go_wp2
          go_roundw
          case rel => exact ⟨j + 1, _, _, l4, b5, Z, by go_num, by omega, by omega, by omega, K6⟩
          case measure => simp [intOf]; omega
        · have Q3 : Hid (Blk (wr.alloc (.cells #[.int .i64 2, .int .i64 y, .int .i64 n, .string s] 52)) wr.heap.size 52 #[.int .i64 2, .int .i64 y, .int .i64 n, .string s]) := Lib.hid (Blk.fresh wr _ _)
          have M3 := Lib.hid (K.out.mid'.below ((Below.refl _ _).alloc (Nat.le_refl _) (.cells #[.int .i64 2, .int .i64 y, .int .i64 n, .string s] 52)))
          go_wp2_with fail
          generalize wr.alloc (.cells #[.int .i64 2, .int .i64 y, .int .i64 n, .string s] 52) = w3 at *
          generalize wr.heap.size = q at *
          clear k0 k1 k2 k3
          have hz : z ≤ 562949953421312 := by omega
          have hzl : bs.length ≤ 70368744177664 := by rw [K.out.len]; omega
          refine (call_align M3.out Q3.out hz).mono ?_
          rintro e w4 ⟨rfl, M4, Q4⟩
          go_wp2_with fail
          refine (call_ralign M4.out Q4.out hzl).mono ?_
          rintro e w5 ⟨rfl, v5, b5, l5, n5, M5, Q5⟩
          have hll := K.out.t.len
          have hp32 : 8 * l.length ≤ z + 7 := by omega
          have K5 : Hid (both w w5 g h v v5 l b5 (8 * l.length)) := Lib.hid (both.of M5.out (by rw [l5.out, K.out.len, hll]; omega) (by rw [n5.out, K.out.n]))
          clear M5 l5 n5 M4 Q4 Q5 M3 Q3 K hll
          generalize 8 * l.length = Z at *
          obtain ⟨l4, hl4⟩ : ∃ l4, l4 = l := ⟨_, rfl⟩
          subst hl4
          go_wp2_with fail
          obtain ⟨A5, cap5, hv5⟩ := K5.out.row
          subst hv5
          have c5 : w5.cell? ⟨h, 0, none⟩ = some (.slice A5 Z cap5) := K5.out.r.b.c0
          have hZ5 : Z ≤ 70368744177664 := by omega
          go_wp2_with fail
          go_region_held3 (fun w' => w'.cell? ⟨h, 0, none⟩ = some (.slice A5 Z cap5))
            (first | exact c5 | assumption | (apply rkeep; assumption; assumption))
            (first | (go_at_call 35; refine (call_len K5.out).mono ?_; rintro e w6 ⟨rfl, rfl⟩) | (go_at_call 36; refine (call_text K5.out).mono ?_; rintro e w6 ⟨rfl, rfl⟩) | (go_at_call 37; refine (call_rtext K5.out hZ5).mono ?_; rintro e w6 ⟨rfl, b6⟩))
          have K6 := Lib.hid (K5.out.below b6)
          clear K5 b6 c5
          go_wp2
          go_roundw
          case rel => exact ⟨j + 1, _, _, l4, b5, Z, by go_num, by omega, by omega, by omega, K6⟩
          case measure => simp [intOf]; omega
        · have d0 : (x == 0) = false := by simpa using h0
          have d1 : (x == 1) = false := by simpa using h1
          have d2 : (x == 2) = false := by simpa using h2
          clear h0 h1 h2
          have Q3 : Hid (Blk (wr.alloc (.cells #[.int .i64 x, .int .i64 y, .int .i64 n, .string s] 52)) wr.heap.size 52 #[.int .i64 x, .int .i64 y, .int .i64 n, .string s]) := Lib.hid (Blk.fresh wr _ _)
          have M3 := Lib.hid (K.out.mid'.below ((Below.refl _ _).alloc (Nat.le_refl _) (.cells #[.int .i64 x, .int .i64 y, .int .i64 n, .string s] 52)))
          go_wp2_with fail
          generalize wr.alloc (.cells #[.int .i64 x, .int .i64 y, .int .i64 n, .string s] 52) = w3 at *
          generalize wr.heap.size = q at *
          clear k0 k1 k2 k3
          have hz : z ≤ 281474976710656 := by omega
          have hzl : bs.length ≤ 35184372088832 := by rw [K.out.len]; omega
          refine (call_bytes s M3.out Q3.out hz (by omega)).mono ?_
          rintro e w4 ⟨rfl, v4, M4, Q4⟩
          have c3 : w4.cell? ⟨q, 3, none⟩ = some (.string s) := Q4.out.cell 3
          go_wp2_with fail
          refine (call_rbytes s M4.out Q4.out hzl (by omega)).mono ?_
          rintro e w5 ⟨rfl, v5, b5, l5, n5, M5, Q5⟩
          have hll := K.out.t.len
          have hp32 : 8 * (l.length + s.size) ≤ z + 1607 := by omega
          have K5 : Hid (both w w5 g h v4 v5 (l ++ s.data.toList) b5 (8 * (l.length + s.size))) := Lib.hid (both.of M5.out (by rw [l5.out, K.out.len, hll]; omega) (by rw [n5.out, K.out.n, K.out.len, num_append, hll, Nat.mul_comm 8]))
          clear M5 l5 n5 M4 Q4 Q5 M3 Q3 K hll c3
          generalize 8 * (l.length + s.size) = Z at *
          generalize l ++ s.data.toList = l4 at *
          go_wp2_with fail
          obtain ⟨A5, cap5, hv5⟩ := K5.out.row
          subst hv5
          have c5 : w5.cell? ⟨h, 0, none⟩ = some (.slice A5 Z cap5) := K5.out.r.b.c0
          have hZ5 : Z ≤ 70368744177664 := by omega
          go_wp2_with fail
          go_region_held3 (fun w' => w'.cell? ⟨h, 0, none⟩ = some (.slice A5 Z cap5))
            (first | exact c5 | assumption | (apply rkeep; assumption; assumption))
            (first | (go_at_call 35; refine (call_len K5.out).mono ?_; rintro e w6 ⟨rfl, rfl⟩) | (go_at_call 36; refine (call_text K5.out).mono ?_; rintro e w6 ⟨rfl, rfl⟩) | (go_at_call 37; refine (call_rtext K5.out hZ5).mono ?_; rintro e w6 ⟨rfl, b6⟩))
          have K6 := Lib.hid (K5.out.below b6)
          clear K5 b6 c5
          go_wp2
          go_roundw
          case rel => exact ⟨j + 1, _, _, l4, b5, Z, by go_num, by omega, by omega, by omega, K6⟩
          case measure => simp [intOf]; omega
    · rcases (show ¬ j < len ∨ (j < len ∧ ¬ j < 80) by omega) with hx | ⟨hx, hx'⟩
      all_goals
        clear hgo
        go_wp2_with (go_at_call 9; refine (known_any _).mono ?_; rintro e w' ⟨rfl, hb⟩)
        go_ret
        exact ⟨rfl, K.out.b.trans (hb.mono K.out.b.size)⟩

theorem cells52 : Try.prog.cellsOf 52 = 4 := by kernel_rfl
theorem cells3 : Try.prog.cellsOf 3 = 1 := by kernel_rfl
theorem cells9 : Try.prog.cellsOf 9 = 1 := by kernel_rfl

set_option maxRecDepth 100000 in
theorem lifted (os : Os) (started : os.Started) (H : Type) (enc : TypeId × Value → H) :
    ReturnsInHanded {} Try.checked os 4 .any (Rows.bitrowWritesSpec.pre6 enc Try.prog Try.f4 Rows.bitrowWritesRow.domain false) (Rows.bitrowWritesSpec.post enc Try.prog Try.f4 false true false false) := by
  refine returnsInHanded_of_change (C := Try.checked) own started (by kernel_rfl) Try.func4
    (ChangeSpec.witness6 (enc := enc) (C := Try.checked) false ⟨#[], #[.slice none 0 0], []⟩ 8 (by kernel_rfl) (by kernel_rfl) (by kernel_rfl) (by kernel_rfl)) ?_
  intro W base args ds gs before hval0 hW _ _
  have hval : ∀ (j : Nat) t v, Try.f4.params[j]? = some t → args[j]? = some v → Value.okWide Try.prog W .any base t v := hval0
  have hW' := hW
  obtain ⟨p, q, hA0, hV, rfl, hfz, hnd⟩ := hW
  have hA : DataW.TrodAll enc Try.prog W 0 (fun _ => true) true Try.f4.params.toList args.toList ds p := hA0
  rw [Try.params4] at hA hval
  obtain ⟨v0, vs0, d0, ds0, p0, q0, hargs, rfl, rfl, h0, r0⟩ := trodAll_cons hA
  obtain ⟨rfl, rfl, rfl⟩ := trodAll_nil r0
  obtain rfl : args = #[v0] := by cases args; simp_all
  obtain ⟨rfl, rfl⟩ := trodVars_none hV
  obtain ⟨A2, len, cap, rfl⟩ := okWide_slice Try.underlying44 (hval 0 44 v0 rfl rfl)
  have hcells : len ≤ 9223372036854775807 ∧ cellsOf W A2 len := by
    rcases open_acts Try.underlying44 Try.underlying52 Try.underlying3 Try.underlying9 cells52 cells3 cells9 rfl rfl rfl rfl ⟨rfl, rfl⟩ ⟨rfl, rfl⟩ ⟨rfl, rfl⟩ ⟨rfl, rfl⟩ h0 with rfl | ⟨b, off, rfl, hl, hm, hb, hi⟩
    · exact ⟨by omega, fun i hi => absurd hi (by omega)⟩
    · unfold maxLen at hm
      refine ⟨by omega, fun i hlt => ?_⟩
      obtain ⟨x, y, z, s, hx, hy, hz, hs, _⟩ := hi i hlt
      exact ⟨b, off, x, y, z, s, rfl, hb, hx, hy, hz, hs⟩
  refine (walk A2 len cap hcells.1 W (Lib.hid hcells.2)).mono fun e W' ⟨he, hb⟩ => ?_
  subst he
  exact ⟨_, rfl, law_post (P := Try.prog) (f := Try.f4) laidOut (by kernel_rfl) (by kernel_rfl) Try.underlying4 rfl hW' rfl hb⟩

theorem proved : Rows.BitrowWritesSaid :=
  OpenClaim.holds_of_wide 4 Try.f4 rfl rfl rfl rfl rfl rfl rfl ⟨rfl, rfl, rfl, rfl, rfl⟩ rfl rfl rfl rfl rfl (by kernel_rfl) Try.func4 (by kernel_rfl)
    (of_decide_eq_true (by kernel_rfl)) (by unfold Func.isWrapper; first | (rw [if_pos (by decide +kernel)]; kernel_rfl) | (rw [if_neg (by decide +kernel)]; exact ⟨rfl, rfl⟩))
    (fun os started H enc _ => lifted os started H enc)
#print axioms proved
end Go.Proofs.Ytceocbfeapdjeaa.bitrowWrites
