/-
  collimatorlaw04.BitrowBack returns true for every script: numbers that were written are read as they were.
  Conditions: none.
-/
import Derived.Test.YtceocbfeapdjeaaBk
import Derived.Test.YtceocbfeapdjeaaBy
import Derived.Test.YtceocbfeapdjeaaBb
import Derived.Test.YtceocbfeapdjeaaLw
namespace Go.Proofs.Ytceocbfeapdjeaa.bitrowBack
open Go.ChangeShapes Go.WideShapes Go.ChangeAt Go.RowKit
open Go.ChangeMaps (open_string shut_string)
open Go.Proofs.Ytceocbfeapdjeaa.Lw Go.Proofs.Ytceocbfeapdjeaa.Vm Go.Proofs.Ytceocbfeapdjeaa.Vo Go.Proofs.Ytceocbfeapdjeaa.Bm Go.Proofs.Ytceocbfeapdjeaa.Bo Go.Proofs.Ytceocbfeapdjeaa.Bt Go.Proofs.Ytceocbfeapdjeaa.Bw Go.Proofs.Ytceocbfeapdjeaa.Br Go.Proofs.Ytceocbfeapdjeaa.Bp Go.Proofs.Ytceocbfeapdjeaa.Bs Go.Proofs.Ytceocbfeapdjeaa.Bv Go.Proofs.Ytceocbfeapdjeaa.Bx Go.Proofs.Ytceocbfeapdjeaa.Bk Go.Proofs.Ytceocbfeapdjeaa.By Go.Proofs.Ytceocbfeapdjeaa.Bb


theorem own : ownKnob Try.prog.godebug = none := by kernel_rfl
theorem laidOut : laidOutB Try.prog = true := by kernel_rfl

/-- The script's cells. -/
def cellsOf (w : World) (A : Option Addr) (len : Nat) : Prop := ∀ i, i < len → ∃ (b off : Nat) (x y z : Int) (s : ByteArray), A = some ⟨b, off, none⟩ ∧ b < w.heap.size ∧ w.cell? ⟨b, off + i * 4, none⟩ = some (.int .i64 x) ∧ w.cell? ⟨b, off + i * 4 + 1, none⟩ = some (.int .i64 y) ∧ w.cell? ⟨b, off + i * 4 + 2, none⟩ = some (.int .i64 z) ∧ w.cell? ⟨b, off + i * 4 + 3, none⟩ = some (.string s)

theorem infoA : (Try.prog.info? 52).map (fun i => (i.zero, i.size, i.bytes)) = some (some (.agg #[.int .i64 0, .int .i64 0, .int .i64 0, .string ⟨#[]⟩]), 4, 40) := by kernel_rfl

theorem wt_drew {base : Nat} {w : World} {g : Nat} {v : Value} {l : List UInt8} {z : Nat} (h : wt base w g v l z) : wt base w.drew g v l z := ⟨h.b, h.o, h.lt, h.len⟩
/-- What the first loop keeps: the writer, what was taken. -/
structure kept (w wr : World) (g : Nat) (vt : Value) (ts : List Tk) (v : Value) (l : List UInt8) : Prop where
  t : wt w.heap.size wr g v l (lenT ts)
  n : num l = encT ts
  ok : ∀ x ∈ ts, x.ok
  r : wr.ownsRow w.heap.size 52 4 vt ts.length (flat ts)
  g : w.heap.size ≤ g
  b : Below w.heap.size w wr

/-- Rows of different types lie in different blocks. -/
theorem own_two {w : World} {b1 b2 s1 s2 n1 n2 : Nat} {e1 e2 : TypeId} {v1 v2 : Value} {x1 x2 : List Value} (h1 : w.ownsRow b1 e1 s1 v1 n1 x1) (h2 : w.ownsRow b2 e2 s2 v2 n2 x2) (hne : e1 ≠ e2) (i : Nat) (hi : v1.ownBlock = some i) (hi2 : v2.ownBlock = some i) : False := by
  rcases h2.2 with ⟨rfl, _⟩ | ⟨g', cap, cur, rfl, _, hh, _⟩
  · simp [Value.ownBlock] at hi2
  · obtain rfl : g' = i := by simpa [Value.ownBlock] using hi2
    exact own_apart (t := e2) (cs := cur) h1 hh hne g' hi rfl
/-- Behind a call that wrote. -/
theorem after_put {w wr w2 : World} {g : Nat} {vt v : Value} {ts : List Tk} {l : List UInt8} (K : kept w wr g vt ts v l) (o : Only (Bv.own g v) wr.drew w2) :
    w2.ownsRow w.heap.size 52 4 vt ts.length (flat ts) ∧ Below w.heap.size w w2 := by
  have hR : wr.drew.ownsRow w.heap.size 52 4 vt ts.length (flat ts) := K.r
  refine ⟨own_only hR o (fun i hi hS => ?_), o.below K.b.drew K.b.size (fun i hi => ?_)⟩
  · rcases hS with rfl | hS
    · exact own_apart K.r K.t.b (by decide) i hi rfl
    · exact own_two K.r K.t.o (by decide) i hi hS
  · rcases hi with rfl | hi
    · exact K.g
    · exact (K.t.o.lt i hi).1
theorem kept_same {w wr w2 : World} {g : Nat} {vt v v2 : Value} {ts : List Tk} {l l2 : List UInt8} {x y z : Int} (K : kept w wr g vt ts v l) (o : Only (Bv.own g v) wr.drew w2) (t2 : wt w.heap.size w2 g v2 l2 (putZ (lenT ts) y z)) (n2 : num l2 = x.toNat ∧ x.toNat = num l) (he : putE y z = 1) : kept w w2 g vt ts v2 l2 := by
  obtain ⟨h1, h2⟩ := after_put K o
  refine ⟨?_, by rw [n2.1, n2.2]; exact K.n, K.ok, h1, K.g, h2⟩
  unfold putZ at t2
  rw [he, if_neg (by decide)] at t2
  exact t2
theorem kept_more {w wr w2 w3 : World} {g : Nat} {vt v v2 v3 : Value} {ts : List Tk} {l l2 : List UInt8} {o3 : Obj} {x : Tk} (K : kept w wr g vt ts v l) (o : Only (Bv.own g v) wr.drew w2) (t2 : wt w.heap.size w2 g v2 l2 (lenT ts + x.n)) (n2 : num l2 = num l + x.c * 2 ^ lenT ts) (hx : x.ok)
    (hown : w3.ownsRow w.heap.size 52 4 v3 (ts.length + 1) (flat ts ++ x.cells)) (hg : (w2.alloc o3).grownBy w3 vt.ownBlock) : kept w w3 g v3 (ts ++ [x]) v2 l2 := by
  obtain ⟨h1, h2⟩ := after_put K o
  have hO : Only (fun k => vt.ownBlock = some k) w2 w3 := ((Only.refl _ _).alloc _).grown hg (fun i hi _ => hi)
  refine ⟨?_, ?_, ?_, ?_, K.g, hO.below h2 h2.size (fun i hi => (h1.lt i hi).1)⟩
  · have e : lenT (ts ++ [x]) = lenT ts + x.n := by rw [lenT_append]; simp [lenT]
    rw [e]
    exact wt_only t2 hO (fun e => own_apart h1 t2.b (by decide) g e rfl) (fun i hi e => own_two h1 t2.o (by decide) i e hi)
  · rw [n2, K.n, encT_append]
    simp [encT, Nat.mul_comm]
  · intro y hy
    rcases List.mem_append.1 hy with h | h
    · exact K.ok y h
    · simp at h; subst h; exact hx
  · rw [flat_append]
    simpa [flat] using hown
theorem new_cells (w : World) (x : Tk) (e : TypeId) : ∀ (j : Nat) (u : Value), x.cells[j]? = some u → (w.alloc (.cells #[.int .i64 x.k, .int .i64 x.v, .int .i64 x.n, .string x.s] e)).cell? ((⟨w.heap.size, 0, none⟩ : Addr).add j) = some u := by
  intro j u hu
  rw [add_plain, Nat.zero_add, Blk.cell (Blk.fresh w e _) j]
  rw [← hu]
  simp [Tk.cells]
theorem tk_one (x : Tk) : ∀ u ∈ x.cells, u.oneCell' = true := by
  intro u hu
  simp [Tk.cells] at hu
  rcases hu with rfl | rfl | rfl | rfl <;> rfl

theorem row_any {w : World} {base : Nat} {e : TypeId} {size : Nat} {v : Value} {n : Nat} {xs : List Value} (h : w.ownsRow base e size v n xs) : ∃ A cap, v = .slice A n cap := by
  rcases h.2 with ⟨rfl, rfl⟩ | ⟨b, cap, _, rfl, _⟩
  · exact ⟨none, 0, rfl⟩
  · exact ⟨_, cap, rfl⟩
/-- What the second loop keeps. -/
structure back (w wr : World) (g h : Nat) (vt : Value) (ts a : List Tk) (v : Value) (l : List UInt8) : Prop where
  t : wt w.heap.size wr g v l (lenT ts)
  r : wr.ownsRow w.heap.size 52 4 vt ts.length (flat ts)
  d : rd wr h ⟨l.toArray⟩ (lenT a)
  h : w.heap.size ≤ h
  b : Below w.heap.size w wr
theorem back.below {w wr w2 : World} {g h : Nat} {vt v : Value} {ts a : List Tk} {l : List UInt8} (K : back w wr g h vt ts a v l) (k : Below wr.heap.size wr w2) : back w w2 g h vt ts a v l :=
  ⟨wt_only (S := fun _ => False) K.t (Only.of_below k) (fun e => e) (fun _ _ e => e), own_only (S := fun _ => False) K.r (Only.of_below k) (fun _ _ e => e), K.d.below k, K.h, K.b.trans (k.mono K.b.size)⟩
theorem back.moved {w wr w2 : World} {g h : Nat} {vt v : Value} {ts a a' : List Tk} {l : List UInt8} (K : back w wr g h vt ts a v l) (o : Only (At h) wr w2) (d : rd w2 h ⟨l.toArray⟩ (lenT a')) : back w w2 g h vt ts a' v l := by
  refine ⟨wt_only K.t o (fun e => Blk.apart K.t.b K.d (by decide) e) (fun i hi e => own_apart K.t.o K.d (by decide) i hi e), own_only K.r o (fun i hi e => own_apart K.r K.d (by decide) i hi e), d, K.h, o.below K.b K.b.size (fun i hi => by cases hi; exact K.h)⟩
theorem bytes_len (l : List UInt8) : (⟨l.toArray⟩ : ByteArray).size = l.length := by show l.toArray.size = _; simp
theorem row_cell {w : World} {base tb cap : Nat} {e : TypeId} {ts : List Tk} (h : w.ownsRow base e 4 (.slice (some ⟨tb, 0, none⟩) ts.length cap) ts.length (flat ts)) (a : List Tk) (x : Tk) (b : List Tk) (hs : ts = a ++ x :: b) (j : Nat) (hj : j < 4) :
    w.cell? ⟨tb, a.length * 4 + j, none⟩ = x.cells[j]? := by
  have hl : a.length < ts.length := by rw [hs]; simp
  rw [h.cellAt _ (by omega), ← flat_get a x b j hj, hs]
theorem row_some {w : World} {base cap n : Nat} {e : TypeId} {A : Option Addr} {xs : List Value} (h : w.ownsRow base e 4 (.slice A n cap) n xs) (hn : 0 < n) : ∃ tb, A = some ⟨tb, 0, none⟩ := by
  rcases h.2 with ⟨_, h0⟩ | ⟨b, cap, _, e, _⟩
  · omega
  · injection e with e; exact ⟨b, e⟩
theorem turn_back {x : Tk} (h : x.ok) (hk : x.k = 1) : turnR x.c x.n = x.v := by
  have h1 := c_lt h
  have h2 : 2 ^ x.n ≤ 2 ^ 32 := Nat.pow_le_pow_right (by omega) h.2.1
  have h3 := h.2.1
  unfold turnR
  rw [if_pos (by simp [cnt]; omega), show ((x.c : Int) % 18446744073709551616).toNat = x.c by omega]
  show ((turnN x.c x.n : Nat) : Int) = _
  rw [c_back h hk]
/-- One of them read back. -/
theorem read_back {w wr : World} {g h : Nat} {vt v : Value} {ts a b : List Tk} {l : List UInt8} {x : Tk} (K : back w wr g h vt ts a v l) (hn : num l = encT ts) (hok : ∀ y ∈ ts, y.ok) (e : ts = a ++ x :: b) :
    chk ⟨l.toArray⟩ (lenT a) x.n = 0 ∧ bitsV ⟨l.toArray⟩ (lenT a) x.n = x.c ∧ peekR ⟨l.toArray⟩ (lenT a) x.n = x.c ∧ moved ⟨l.toArray⟩ (lenT a) x.n = lenT (a ++ [x]) ∧ lenT a ≤ 8 * (⟨l.toArray⟩ : ByteArray).size := by
  have hx : x.ok := hok x (by rw [e]; simp)
  have ha : ∀ y ∈ a, y.ok := fun y hy => hok y (by rw [e]; simp [hy])
  have hL : lenT ts = lenT a + x.n + lenT b := by rw [e, lenT_append]; simp [lenT]; omega
  have hl := K.t.len
  have hp := peek_at a x b ha hx
  have hs := bytes_len l
  have hc : cnt (x.n : Int) = true := by have := hx.2.1; simp [cnt]; omega
  have h1 : chk ⟨l.toArray⟩ (lenT a) x.n = 0 := by
    unfold chk
    rw [if_pos hc, if_neg (by rw [hs]; omega)]
  have h2 : peekR ⟨l.toArray⟩ (lenT a) x.n = x.c := by
    unfold peekR
    rw [if_pos hc]
    show ((peekN (num l) (lenT a) x.n : Nat) : Int) = _
    rw [hn, e, hp]
  refine ⟨h1, ?_, h2, ?_, by rw [hs]; omega⟩
  · unfold bitsV; rw [if_pos h1]; exact h2
  · unfold moved
    rw [if_pos h1, lenT_append]
    simp [lenT]

set_option maxHeartbeats 4000000 in
set_option maxRecDepth 100000 in
theorem walk (A : Option Addr) (len cap : Nat) (hl : len ≤ 9223372036854775807) (w : World) (HC : Hid (cellsOf w A len)) :
    Calls Try.prog 6 #[.slice A len cap] w fun e w' => e = .returned (.bool true) ∧ Below w.heap.size w w' := by
  obtain ⟨i0, hi, hz0, hz1, hz2⟩ := info_parts infoA
  go_enter Try.func6, Try.ntmps6
  go_wp2_with fail
  refine (Open_any _).mono ?_
  rintro e w1 ⟨g, rfl, t1, hg, b1⟩
  have K1 : Hid (kept w w1 g (.slice none 0 0) [] (.slice none 0 0) []) := Lib.hid ⟨t1, rfl, by simp, World.ownsRow_nil _ _ _ _, by omega, b1⟩
  clear t1 hg b1
  go_wp2
  go_loopw [4, 5] (fun vt i wr => ∃ (j : Nat) (ts : List Tk) (v : Value) (l : List UInt8), i = .int .i64 j ∧ j ≤ len ∧ j ≤ 80 ∧ ts.length ≤ j ∧ Hid (kept w wr g vt ts v l))
    (fun _ i _ => 80 - (intOf i).toNat)
  case atStart => exact ⟨0, [], _, _, rfl, by omega, by omega, by simp, K1⟩
  case round =>
    obtain ⟨j, ts, v, l, rfl, hj, hj80, htj, K⟩ := hrel
    clear K1
    by_cases hgo : j < len ∧ j < 80
    · obtain ⟨hjl, hj8⟩ := hgo
      obtain ⟨b, off, x, y, z, s, rfl, hbl, cx, cy, cz, cs⟩ := HC.out j hjl
      have k1 : wr.cell? ⟨b, off + j * 4 + 1, none⟩ = some (.int .i64 y) := (K.out.b.cell (p := ⟨b, off + j * 4 + 1, none⟩) hbl).trans cy
      have k2 : wr.cell? ⟨b, off + j * 4 + 2, none⟩ = some (.int .i64 z) := (K.out.b.cell (p := ⟨b, off + j * 4 + 2, none⟩) hbl).trans cz
      rcases (show x = 0 ∨ x = 1 ∨ (¬ x = 0 ∧ ¬ x = 1) by omega) with rfl | rfl | ⟨h0, h1⟩
      · have k0 : wr.cell? ⟨b, off + j * 4, none⟩ = some (.int .i64 0) := (K.out.b.cell (p := ⟨b, off + j * 4, none⟩) hbl).trans cx
        go_wp2_with fail
        go_still_tail 11, (by kernel_rfl)
        go_wp2_with fail
        refine (Bx.Put_any _ y z (wt_drew K.out.t) K.out.b.size (by have := lenT_le ts K.out.ok; omega)).mono ?_
        rintro e w2 ⟨rfl, v2, l2, t2, n2, o2, a2⟩
        have HP := Lib.hid (after_put K.out o2)
        have T2 := Lib.hid t2; have N2 := Lib.hid n2; have O2 := Lib.hid o2
        clear t2 n2 o2 a2 k0 k1 k2
        have k0 : w2.cell? ⟨b, off + j * 4, none⟩ = some (.int .i64 0) := (HP.out.2.cell (p := ⟨b, off + j * 4, none⟩) hbl).trans cx
        by_cases he : putE y z = 0
        · obtain ⟨y', m, hy', hm', hm, hy⟩ : ∃ y' m : Nat, y = (y' : Int) ∧ z = (m : Int) ∧ m ≤ 32 ∧ y' < 2 ^ m := by
            rcases putE_cases y z with ⟨h, _⟩ | ⟨h, _⟩ | ⟨_, _, h⟩
            · rw [h] at he; cases he
            · rw [h] at he; cases he
            · exact h
          subst hy'; subst hm'
          have k1 : w2.cell? ⟨b, off + j * 4 + 1, none⟩ = some (.int .i64 y') := (HP.out.2.cell (p := ⟨b, off + j * 4 + 1, none⟩) hbl).trans cy
          have k2 : w2.cell? ⟨b, off + j * 4 + 2, none⟩ = some (.int .i64 m) := (HP.out.2.cell (p := ⟨b, off + j * 4 + 2, none⟩) hbl).trans cz
          have k3 : w2.cell? ⟨b, off + j * 4 + 3, none⟩ = some (.string s) := (HP.out.2.cell (p := ⟨b, off + j * 4 + 3, none⟩) hbl).trans cs
          have HE := Lib.hid he
          have T2' : Hid (wt w.heap.size w2 g v2 l2 (lenT ts + (Tk.mk 0 y' m s).n)) := Lib.hid (by have h := T2.out; unfold putZ at h; rw [if_pos he] at h; exact h)
          have N2' : Hid (num l2 = num l + (Tk.mk 0 y' m s).c * 2 ^ lenT ts) := Lib.hid (by have h := N2.out; unfold putN at h; rw [if_pos he] at h; exact h)
          have XO : Hid ((Tk.mk 0 y' m s).ok) := Lib.hid ⟨by simp, hm, hy⟩
          clear he T2 N2 hy
          rw [HE.out]
          go_wp2_with (at_builtin; refine wpList_append_own_at _ rfl _ _ 44 rfl w.heap.size 52 i0 (.agg #[.int .i64 0, .int .i64 0, .int .i64 0, .string ⟨#[]⟩]) 4 40 Try.underlying44 hi hz0 hz1 hz2 rfl (by decide) _ ts.length (flat ts) rfl (HP.out.1.alloc _) ⟨w2.heap.size, 0, none⟩ 1 1 (Tk.mk 0 y' m s).cells rfl rfl (new_cells w2 (Tk.mk 0 y' m s) _) (tk_one _) ?a3 ?a4 ?a5 ?_)
          case a3 => unfold maxLen; omega
          case a4 => omega
          case a5 => have := HP.out.2.size; simp; omega
          intro v3 w3 hown3 hgrow _ _
          have K3 := Lib.hid (kept_more K.out O2.out T2'.out N2'.out XO.out hown3 hgrow)
          clear hown3 hgrow k0 k1 k2 k3
          go_wp2
          go_roundw
          case rel => exact ⟨j + 1, ts ++ [Tk.mk 0 y' m s], v2, l2, by go_num, by omega, by omega, by simp; omega, K3⟩
          case measure => simp [intOf]; omega
        · have he1 : putE y z = 1 := by
            rcases putE_cases y z with ⟨h, _⟩ | ⟨h, _⟩ | ⟨h, _⟩
            · exact h
            · exact h
            · exact absurd h he
          have HE := Lib.hid he1
          have K3 : Hid (kept w w2 g _ ts v2 l2) := Lib.hid (kept_same (x := (num l : Int)) K.out O2.out T2.out (by have h := N2.out; unfold putN at h; rw [if_neg he] at h; exact ⟨h, rfl⟩) he1)
          clear he he1 T2 N2
          rw [HE.out]
          go_wp2
          go_roundw
          case rel => exact ⟨j + 1, ts, v2, l2, by go_num, by omega, by omega, by omega, K3⟩
          case measure => simp [intOf]; omega
      · have k0 : wr.cell? ⟨b, off + j * 4, none⟩ = some (.int .i64 1) := (K.out.b.cell (p := ⟨b, off + j * 4, none⟩) hbl).trans cx
        go_wp2_with fail
        go_still_tail 11, (by kernel_rfl)
        go_wp2_with fail
        refine (Bx.Code_any _ y z (wt_drew K.out.t) K.out.b.size (by have := lenT_le ts K.out.ok; omega)).mono ?_
        rintro e w2 ⟨rfl, v2, l2, t2, n2, o2, a2⟩
        have HP := Lib.hid (after_put K.out o2)
        have T2 := Lib.hid t2; have N2 := Lib.hid n2; have O2 := Lib.hid o2
        clear t2 n2 o2 a2 k0 k1 k2
        have k0 : w2.cell? ⟨b, off + j * 4, none⟩ = some (.int .i64 1) := (HP.out.2.cell (p := ⟨b, off + j * 4, none⟩) hbl).trans cx
        by_cases he : putE y z = 0
        · obtain ⟨y', m, hy', hm', hm, hy⟩ : ∃ y' m : Nat, y = (y' : Int) ∧ z = (m : Int) ∧ m ≤ 32 ∧ y' < 2 ^ m := by
            rcases putE_cases y z with ⟨h, _⟩ | ⟨h, _⟩ | ⟨_, _, h⟩
            · rw [h] at he; cases he
            · rw [h] at he; cases he
            · exact h
          subst hy'; subst hm'
          have k1 : w2.cell? ⟨b, off + j * 4 + 1, none⟩ = some (.int .i64 y') := (HP.out.2.cell (p := ⟨b, off + j * 4 + 1, none⟩) hbl).trans cy
          have k2 : w2.cell? ⟨b, off + j * 4 + 2, none⟩ = some (.int .i64 m) := (HP.out.2.cell (p := ⟨b, off + j * 4 + 2, none⟩) hbl).trans cz
          have k3 : w2.cell? ⟨b, off + j * 4 + 3, none⟩ = some (.string s) := (HP.out.2.cell (p := ⟨b, off + j * 4 + 3, none⟩) hbl).trans cs
          have HE := Lib.hid he
          have T2' : Hid (wt w.heap.size w2 g v2 l2 (lenT ts + (Tk.mk 1 y' m s).n)) := Lib.hid (by have h := T2.out; unfold putZ at h; rw [if_pos he] at h; exact h)
          have N2' : Hid (num l2 = num l + (Tk.mk 1 y' m s).c * 2 ^ lenT ts) := Lib.hid (by have h := N2.out; unfold codeN at h; rw [if_pos he] at h; exact h)
          have XO : Hid ((Tk.mk 1 y' m s).ok) := Lib.hid ⟨by simp, hm, hy⟩
          clear he T2 N2 hy
          rw [HE.out]
          go_wp2_with (at_builtin; refine wpList_append_own_at _ rfl _ _ 44 rfl w.heap.size 52 i0 (.agg #[.int .i64 0, .int .i64 0, .int .i64 0, .string ⟨#[]⟩]) 4 40 Try.underlying44 hi hz0 hz1 hz2 rfl (by decide) _ ts.length (flat ts) rfl (HP.out.1.alloc _) ⟨w2.heap.size, 0, none⟩ 1 1 (Tk.mk 1 y' m s).cells rfl rfl (new_cells w2 (Tk.mk 1 y' m s) _) (tk_one _) ?a3 ?a4 ?a5 ?_)
          case a3 => unfold maxLen; omega
          case a4 => omega
          case a5 => have := HP.out.2.size; simp; omega
          intro v3 w3 hown3 hgrow _ _
          have K3 := Lib.hid (kept_more K.out O2.out T2'.out N2'.out XO.out hown3 hgrow)
          clear hown3 hgrow k0 k1 k2 k3
          go_wp2
          go_roundw
          case rel => exact ⟨j + 1, ts ++ [Tk.mk 1 y' m s], v2, l2, by go_num, by omega, by omega, by simp; omega, K3⟩
          case measure => simp [intOf]; omega
        · have he1 : putE y z = 1 := by
            rcases putE_cases y z with ⟨h, _⟩ | ⟨h, _⟩ | ⟨h, _⟩
            · exact h
            · exact h
            · exact absurd h he
          have HE := Lib.hid he1
          have K3 : Hid (kept w w2 g _ ts v2 l2) := Lib.hid (kept_same (x := (num l : Int)) K.out O2.out T2.out (by have h := N2.out; unfold codeN at h; rw [if_neg he] at h; exact ⟨h, rfl⟩) he1)
          clear he he1 T2 N2
          rw [HE.out]
          go_wp2
          go_roundw
          case rel => exact ⟨j + 1, ts, v2, l2, by go_num, by omega, by omega, by omega, K3⟩
          case measure => simp [intOf]; omega
      · have k0 : wr.cell? ⟨b, off + j * 4, none⟩ = some (.int .i64 x) := (K.out.b.cell (p := ⟨b, off + j * 4, none⟩) hbl).trans cx
        have d0 : (x == 0) = false := by simpa using h0
        have d1 : (x == 1) = false := by simpa using h1
        clear h0 h1
        go_wp2
        go_roundw
        case rel => exact ⟨j + 1, ts, v, l, by go_num, by omega, by omega, by omega, K⟩
        case measure => simp [intOf]; omega
    · have HN : Hid (num l = encT ts) := Lib.hid K.out.n
      have HO : Hid (∀ y ∈ ts, y.ok) := Lib.hid K.out.ok
      have hlen := K.out.t.len
      have hlt := lenT_le ts K.out.ok
      have hsz : (⟨l.toArray⟩ : ByteArray).size ≤ 281474976710656 := by rw [bytes_len]; omega
      obtain ⟨A', cp, hvt⟩ := row_any K.out.r
      subst hvt
      have htl : ts.length ≤ 80 := by omega
      rcases (show ¬ j < len ∨ (j < len ∧ ¬ j < 80) by omega) with hx | ⟨hx, hx'⟩
      all_goals
        clear hgo HC hlt
        go_wp2_with fail
        refine (Bx.Text_any K.out.t).mono ?_
        rintro e w2 ⟨rfl, rfl⟩
        go_wp2_with fail
        refine (New_ok _ 0 _ hsz (by omega)).mono ?_
        rintro e w3 ⟨h, rfl, r3, hh, b3⟩
        have K3 : Hid (back w w3 g h (.slice A' ts.length cp) ts [] v l) := Lib.hid (by
          have hbl := K.out.b
          exact ⟨wt_only (S := fun _ => False) K.out.t (Only.of_below b3) (fun e => e) (fun _ _ e => e), own_only (S := fun _ => False) K.out.r (Only.of_below b3) (fun _ _ e => e), r3, by rw [hh]; exact hbl.size, hbl.trans (b3.mono hbl.size)⟩)
        clear r3 hh b3 K
        go_wp2
        go_loopw [9, 10] (fun s9 s10 w4 => ∃ a b : List Tk, s10 = .int .i64 a.length ∧ s9 = .int .i64 (lenT a) ∧ Hid (ts = a ++ b) ∧ a.length ≤ ts.length ∧ Hid (back w w4 g h (.slice A' ts.length cp) ts a v l))
          (fun _ s10 _ => ts.length - (intOf s10).toNat)
        case atStart => exact ⟨[], ts, rfl, rfl, Lib.hid rfl, by simp, K3⟩
        case round =>
          obtain ⟨a, b, rfl, rfl, HS, hal, K⟩ := hrel
          clear K3
          rcases b with _ | ⟨x, b⟩
          · have hts : ts = a := by have h := HS.out; simpa using h
            subst hts
            have hL := K.out.t.len
            have hs8 := bytes_len l
            have hd : decide (((8 * (⟨l.toArray⟩ : ByteArray).size - lenT ts : Nat) : Int) < 8) = true := by simp; omega
            have hle : lenT ts ≤ 8 * (⟨l.toArray⟩ : ByteArray).size := by omega
            clear hL hs8
            generalize hLL : 8 * (⟨l.toArray⟩ : ByteArray).size - lenT ts = LL at *
            have HLL := Lib.hid hLL
            clear hLL
            go_wp2_with fail
            refine (Bx.Len_any K.out.t.b).mono ?_
            rintro e w5 ⟨rfl, rfl⟩
            go_wp2_with fail
            refine (Left_any K.out.d hsz hle).mono ?_
            rintro e w5 ⟨rfl, n5, rfl⟩
            rw [HLL.out]
            go_wp2_with (go_at_call 9; refine (known_any _).mono ?_; rintro e w' ⟨rfl, hb⟩)
            go_ret
            exact ⟨rfl, K.out.b.trans ((below_draws _ n5).trans hb |>.mono K.out.b.size)⟩
          · have hlt : a.length < ts.length := by rw [HS.out]; simp
            obtain ⟨tb, hA⟩ := row_some K.out.r (by omega)
            subst hA
            have hx : x.ok := HO.out x (by rw [HS.out]; simp)
            obtain ⟨f1, f2, f3, f4, f5⟩ := read_back K.out HN.out HO.out HS.out
            have F1 := Lib.hid f1; have F2 := Lib.hid f2; have F3 := Lib.hid f3; have F4 := Lib.hid f4
            clear f1 f2 f3 f4
            have k0 : wr.cell? ⟨tb, a.length * 4, none⟩ = some (.int .i64 x.k) := (row_cell K.out.r a x b HS.out 0 (by omega)).trans rfl
            have k1 : wr.cell? ⟨tb, a.length * 4 + 1, none⟩ = some (.int .i64 x.v) := (row_cell K.out.r a x b HS.out 1 (by omega)).trans rfl
            have k2 : wr.cell? ⟨tb, a.length * 4 + 2, none⟩ = some (.int .i64 x.n) := (row_cell K.out.r a x b HS.out 2 (by omega)).trans rfl
            have hxn := hx.2.1
            have hTB := Lib.hid (lenT_le ts HO.out)
            have hTa : lenT a + x.n ≤ lenT ts := by rw [HS.out, lenT_append]; simp only [lenT]; omega
            have hTc : lenT ts ≤ 2560 := by have := hTB.out; omega
            go_wp2_with fail
            refine (Peek_b _ K.out.d hsz f5).mono ?_
            rintro e w5 ⟨rfl, r5, b5⟩
            rw [F3.out]
            have K5 := Lib.hid (K.out.below b5)
            clear r5 b5 K k0 k1 k2
            go_wp2_with fail
            refine (Bits_any _ K5.out.d hsz f5).mono ?_
            rintro e w6 ⟨rfl, r6, o6⟩
            rw [F1.out, F2.out]
            have K6 : Hid (back w w6 g h _ ts (a ++ [x]) v l) := Lib.hid (K5.out.moved o6 (by rw [← F4.out]; exact r6))
            clear r6 o6 K5
            have k0 : w6.cell? ⟨tb, a.length * 4, none⟩ = some (.int .i64 x.k) := (row_cell K6.out.r a x b HS.out 0 (by omega)).trans rfl
            have k1 : w6.cell? ⟨tb, a.length * 4 + 1, none⟩ = some (.int .i64 x.v) := (row_cell K6.out.r a x b HS.out 1 (by omega)).trans rfl
            have k2 : w6.cell? ⟨tb, a.length * 4 + 2, none⟩ = some (.int .i64 x.n) := (row_cell K6.out.r a x b HS.out 2 (by omega)).trans rfl
            have hK : Hid (lenT (a ++ [x]) = lenT a + x.n) := Lib.hid (by rw [lenT_append]; simp [lenT])
            rcases hx.1 with hk | hk
            · have hxc : x.c = x.v := by unfold Tk.c; rw [if_neg (by omega)]
              have HXC := Lib.hid hxc
              rw [HXC.out]
              have d1 : ((x.k : Int) == 1) = false := by rw [hk]; rfl
              clear hk hxc
              go_wp2_with (go_at_call 23; refine (At_any K6.out.d).mono ?_; rintro e w7 ⟨rfl, rfl⟩; rw [hK.out])
              go_roundw
              case rel => exact ⟨a ++ [x], b, by simp, by rw [hK.out]; go_num, Lib.hid (by rw [HS.out]; simp), by simp; omega, K6⟩
              case measure => simp [intOf]; omega
            · have hcl := c_lt hx
              have HCB := Lib.hid (turn_back hx hk)
              have d1 : ((x.k : Int) == 1) = true := by rw [hk]; rfl
              clear hk hcl
              go_wp2_with fail
              refine (Turn_any _ _ _).mono ?_
              rintro e w7 ⟨rfl, rfl⟩
              rw [HCB.out]
              go_wp2_with fail
              refine (Turn_any _ _ _).mono ?_
              rintro e w7 ⟨rfl, rfl⟩
              rw [HCB.out]
              go_wp2_with (go_at_call 23; refine (At_any K6.out.d).mono ?_; rintro e w7 ⟨rfl, rfl⟩; rw [hK.out])
              go_roundw
              case rel => exact ⟨a ++ [x], b, by simp, by rw [hK.out]; go_num, Lib.hid (by rw [HS.out]; simp), by simp; omega, K6⟩
              case measure => simp [intOf]; omega

theorem cells52 : Try.prog.cellsOf 52 = 4 := by kernel_rfl
theorem cells3 : Try.prog.cellsOf 3 = 1 := by kernel_rfl
theorem cells9 : Try.prog.cellsOf 9 = 1 := by kernel_rfl

set_option maxRecDepth 100000 in
theorem lifted (os : Os) (started : os.Started) (H : Type) (enc : TypeId × Value → H) :
    ReturnsInHanded {} Try.checked os 6 .any (Rows.bitrowBackSpec.pre6 enc Try.prog Try.f6 Rows.bitrowBackRow.domain false) (Rows.bitrowBackSpec.post enc Try.prog Try.f6 false true false false) := by
  refine returnsInHanded_of_change (C := Try.checked) own started (by kernel_rfl) Try.func6
    (ChangeSpec.witness6 (enc := enc) (C := Try.checked) false ⟨#[], #[.slice none 0 0], []⟩ 8 (by kernel_rfl) (by kernel_rfl) (by kernel_rfl) (by kernel_rfl)) ?_
  intro W base args ds gs before hval0 hW _ _
  have hval : ∀ (j : Nat) t v, Try.f6.params[j]? = some t → args[j]? = some v → Value.okWide Try.prog W .any base t v := hval0
  have hW' := hW
  obtain ⟨p, q, hA0, hV, rfl, hfz, hnd⟩ := hW
  have hA : DataW.TrodAll enc Try.prog W 0 (fun _ => true) true Try.f6.params.toList args.toList ds p := hA0
  rw [Try.params6] at hA hval
  obtain ⟨v0, vs0, d0, ds0, p0, q0, hargs, rfl, rfl, h0, r0⟩ := trodAll_cons hA
  obtain ⟨rfl, rfl, rfl⟩ := trodAll_nil r0
  obtain rfl : args = #[v0] := by cases args; simp_all
  obtain ⟨rfl, rfl⟩ := trodVars_none hV
  obtain ⟨A2, len, cap, rfl⟩ := okWide_slice Try.underlying44 (hval 0 44 v0 rfl rfl)
  have hcells : len ≤ 9223372036854775807 ∧ cellsOf W A2 len := by
    rcases open_acts Try.underlying44 Try.underlying52 Try.underlying3 Try.underlying9 cells52 cells3 cells9 rfl rfl rfl rfl ⟨rfl, rfl⟩ ⟨rfl, rfl⟩ ⟨rfl, rfl⟩ ⟨rfl, rfl⟩ h0 with rfl | ⟨b, off, rfl, hl, hm, hb, hi⟩
    · exact ⟨by omega, fun i hi => absurd hi (by omega)⟩
    · unfold maxLen at hm
      refine ⟨by omega, fun i hlt => ?_⟩
      obtain ⟨x, y, z, s, hx, hy, hz, hs, _⟩ := hi i hlt
      exact ⟨b, off, x, y, z, s, rfl, hb, hx, hy, hz, hs⟩
  refine (walk A2 len cap hcells.1 W (Lib.hid hcells.2)).mono fun e W' ⟨he, hb⟩ => ?_
  subst he
  exact ⟨_, rfl, law_post (P := Try.prog) (f := Try.f6) laidOut (by kernel_rfl) (by kernel_rfl) Try.underlying4 rfl hW' rfl hb⟩

theorem proved : Rows.BitrowBackSaid :=
  OpenClaim.holds_of_wide 6 Try.f6 rfl rfl rfl rfl rfl rfl rfl ⟨rfl, rfl, rfl, rfl, rfl⟩ rfl rfl rfl rfl rfl (by kernel_rfl) Try.func6 (by kernel_rfl)
    (of_decide_eq_true (by kernel_rfl)) (by unfold Func.isWrapper; first | (rw [if_pos (by decide +kernel)]; kernel_rfl) | (rw [if_neg (by decide +kernel)]; exact ⟨rfl, rfl⟩))
    (fun os started H enc _ => lifted os started H enc)
#print axioms proved
end Go.Proofs.Ytceocbfeapdjeaa.bitrowBack
