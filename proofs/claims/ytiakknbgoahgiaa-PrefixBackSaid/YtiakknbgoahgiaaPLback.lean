/-
  collimatorlaw06.PrefixBack returns true for all lengths, symbols and strings: symbols that were written are read as they were, whatever stands behind them.
  Conditions: none.
-/
import Derived.Test.YtiakknbgoahgiaaLw
import Derived.Test.YtiakknbgoahgiaaNy
import Derived.Test.YtiakknbgoahgiaaPk
import Derived.Test.YtiakknbgoahgiaaPb
import Derived.Test.YtiakknbgoahgiaaBk
namespace Go.Proofs.Ytiakknbgoahgiaa.prefixBack
open Go.ChangeShapes Go.WideShapes Go.ChangeAt Go.RowKit
open Go.ChangeMaps (open_string shut_string)
open Go.Proofs.Ytiakknbgoahgiaa.Lw Go.Proofs.Ytiakknbgoahgiaa.Vm Go.Proofs.Ytiakknbgoahgiaa.Vo Go.Proofs.Ytiakknbgoahgiaa.Bm Go.Proofs.Ytiakknbgoahgiaa.Bo Go.Proofs.Ytiakknbgoahgiaa.Bt Go.Proofs.Ytiakknbgoahgiaa.Bw Go.Proofs.Ytiakknbgoahgiaa.Br Go.Proofs.Ytiakknbgoahgiaa.Bp Go.Proofs.Ytiakknbgoahgiaa.Bs Go.Proofs.Ytiakknbgoahgiaa.Bv Go.Proofs.Ytiakknbgoahgiaa.Bx Go.Proofs.Ytiakknbgoahgiaa.Bk Go.Proofs.Ytiakknbgoahgiaa.Na Go.Proofs.Ytiakknbgoahgiaa.Nm Go.Proofs.Ytiakknbgoahgiaa.Nw Go.Proofs.Ytiakknbgoahgiaa.Ni Go.Proofs.Ytiakknbgoahgiaa.Nc Go.Proofs.Ytiakknbgoahgiaa.Nd Go.Proofs.Ytiakknbgoahgiaa.Ne Go.Proofs.Ytiakknbgoahgiaa.Nf Go.Proofs.Ytiakknbgoahgiaa.Ny Go.Proofs.Ytiakknbgoahgiaa.Pm Go.Proofs.Ytiakknbgoahgiaa.Pw Go.Proofs.Ytiakknbgoahgiaa.Pt Go.Proofs.Ytiakknbgoahgiaa.Pb Go.Proofs.Ytiakknbgoahgiaa.Pg Go.Proofs.Ytiakknbgoahgiaa.Ph Go.Proofs.Ytiakknbgoahgiaa.Pi


theorem own : ownKnob Try.prog.godebug = none := by kernel_rfl
theorem laidOut : laidOutB Try.prog = true := by kernel_rfl

theorem infoI8 : (Try.prog.info? 3).map (fun i => (i.zero, i.size, i.bytes)) = some (some (.int .i64 0), 1, 8) := by kernel_rfl
/-- Symbols as cells. -/
def vals (ys : List Nat) : List Value := ys.map fun (y : Nat) => Value.int .i64 (y : Int)
theorem vals_get {ys : List Nat} {i y : Nat} (h : ys[i]? = some y) : (vals ys)[i]? = some (.int .i64 (y : Int)) := by simp [vals, h]
/-- What the first loop keeps: the writer, what was taken. -/
structure kept (W wr : World) (g n : Nat) (l : List Nat) (vt : Value) (ys : List Nat) (v : Value) (bl : List UInt8) : Prop where
  ht : wt W.heap.size wr g v bl (zs l ys)
  hn : num bl = ns l ys
  ok : ∀ y ∈ ys, y < n ∧ 0 < nth l y
  hr : wr.ownsRow W.heap.size 3 1 vt ys.length (vals ys)
  hg : W.heap.size ≤ g
  hb : Below W.heap.size W wr
/-- Rows of different types lie in different blocks. -/
theorem own_two {w : World} {b1 b2 s1 s2 n1 n2 : Nat} {e1 e2 : TypeId} {v1 v2 : Value} {x1 x2 : List Value} (h1 : w.ownsRow b1 e1 s1 v1 n1 x1) (h2 : w.ownsRow b2 e2 s2 v2 n2 x2) (hne : e1 ≠ e2) (i : Nat) (hi : v1.ownBlock = some i) (hi2 : v2.ownBlock = some i) : False := by
  rcases h2.2 with ⟨rfl, _⟩ | ⟨g', cap, cur, rfl, _, hh, _⟩
  · simp [Value.ownBlock] at hi2
  · obtain rfl : g' = i := by simpa [Value.ownBlock] using hi2
    exact own_apart (t := e2) (cs := cur) h1 hh hne g' hi rfl
/-- Behind a call that wrote. -/
theorem after_put {W wr w2 : World} {g n : Nat} {l : List Nat} {vt v : Value} {ys : List Nat} {bl : List UInt8} (K : kept W wr g n l vt ys v bl) (o : Only (Bv.own g v) wr w2) :
    w2.ownsRow W.heap.size 3 1 vt ys.length (vals ys) ∧ Below W.heap.size W w2 := by
  refine ⟨own_only K.hr o (fun i hi hS => ?_), own_below K.ht K.hg K.hb K.hb.size o⟩
  rcases hS with rfl | hS
  · exact own_apart K.hr K.ht.b (by decide) i hi rfl
  · exact own_two K.hr K.ht.o (by decide) i hi hS
/-- What Write leaves, where it refuses and where it does not. -/
structure wrotes (W wr w2 : World) (g n : Nat) (f : Nat → Int) (y : Int) (v v2 : Value) (ys : List Nat) (bl b2 : List UInt8) : Prop where
  ht : wt W.heap.size w2 g v2 b2 (wrZ n f y (zs (L n f) ys))
  hn : num b2 = wrN n f y (num bl) (zs (L n f) ys)
  ho : Only (Bv.own g v) wr w2
theorem kept_same {W wr w2 : World} {g n : Nat} {f : Nat → Int} {y : Int} {vt v v2 : Value} {ys : List Nat} {bl b2 : List UInt8} (K : kept W wr g n (L n f) vt ys v bl) (h : wrotes W wr w2 g n f y v v2 ys bl b2) (he : wrE n f y ≠ 0) : kept W w2 g n (L n f) vt ys v2 b2 := by
  obtain ⟨h1, h2⟩ := after_put K h.ho
  have ht := h.ht
  have hn := h.hn
  rw [wrZ, if_neg he] at ht
  rw [wrN, if_neg he] at hn
  exact ⟨ht, by rw [hn]; exact K.hn, K.ok, h1, K.hg, h2⟩
theorem kept_more {W wr w2 w3 : World} {g n : Nat} {f : Nat → Int} {k : Nat} {vt v v2 v3 : Value} {ys : List Nat} {bl b2 : List UInt8} {o3 : Obj} (K : kept W wr g n (L n f) vt ys v bl) (h : wrotes W wr w2 g n f (k : Int) v v2 ys bl b2) (he : wrE n f (k : Int) = 0) (hk : k < n) (h0 : 0 < nth (L n f) k)
    (hown : w3.ownsRow W.heap.size 3 1 v3 (ys.length + 1) (vals ys ++ [.int .i64 (k : Int)])) (hg : (w2.alloc o3).grownBy w3 vt.ownBlock) : kept W w3 g n (L n f) v3 (ys ++ [k]) v2 b2 := by
  obtain ⟨h1, h2⟩ := after_put K h.ho
  have ht := h.ht
  have hn := h.hn
  rw [wrZ, if_pos he] at ht
  rw [wrN, if_pos he] at hn
  have hO : Only (fun k => vt.ownBlock = some k) w2 w3 := ((Only.refl _ _).alloc _).grown hg (fun i hi _ => hi)
  refine ⟨?_, ?_, ?_, ?_, K.hg, hO.below h2 h2.size (fun i hi => (h1.lt i hi).1)⟩
  · rw [zs_snoc]
    exact wt_only ht hO (fun e => own_apart h1 ht.b (by decide) g e rfl) (fun i hi e => own_two h1 ht.o (by decide) i e hi)
  · rw [hn, K.hn, ns_snoc]; rfl
  · intro y hy
    rcases List.mem_append.1 hy with h | h
    · exact K.ok y h
    · simp at h; subst h; exact ⟨hk, h0⟩
  · simpa [vals] using hown
theorem row_any {w : World} {base : Nat} {e : TypeId} {size : Nat} {v : Value} {n : Nat} {xs : List Value} (h : w.ownsRow base e size v n xs) : ∃ A cap, v = .slice A n cap := by
  rcases h.2 with ⟨rfl, rfl⟩ | ⟨b, cap, _, rfl, _⟩
  · exact ⟨none, 0, rfl⟩
  · exact ⟨_, cap, rfl⟩
theorem row_some {w : World} {base cap n : Nat} {e : TypeId} {A : Option Addr} {xs : List Value} (h : w.ownsRow base e 1 (.slice A n cap) n xs) (hn : 0 < n) : ∃ tb, A = some ⟨tb, 0, none⟩ := by
  rcases h.2 with ⟨_, h0⟩ | ⟨b, cap, _, e, _⟩
  · omega
  · injection e with e; exact ⟨b, e⟩
/-- What the second loop keeps. -/
structure back (W wr : World) (gt n r : Nat) (l : List Nat) (vt : Value) (ys : List Nat) (s : ByteArray) (j : Nat) : Prop where
  hr : wr.ownsRow W.heap.size 3 1 vt ys.length (vals ys)
  hd : rd wr r s (zs l (ys.take j))
  ht : tabl wr gt n l
  hh : W.heap.size ≤ r
  hb : Below W.heap.size W wr
theorem back.moved {W wr w2 : World} {gt n r : Nat} {l : List Nat} {vt : Value} {ys : List Nat} {s : ByteArray} {j j' : Nat} (K : back W wr gt n r l vt ys s j) (o : Only (At r) wr w2) (d : rd w2 r s (zs l (ys.take j'))) (t : tabl w2 gt n l) : back W w2 gt n r l vt ys s j' :=
  ⟨own_only K.hr o (fun i hi e => own_apart K.hr K.hd (by decide) i hi e), d, t, K.hh, o.below K.hb K.hb.size (fun i hi => by cases hi; exact K.hh)⟩
theorem low_bits' {a b m z : Nat} (ha : a < 2 ^ z) (hz : z ≤ m) : (a + 2 ^ m * b) % 2 ^ z = a := by
  have : 2 ^ m * b = 2 ^ z * (2 ^ (m - z) * b) := by rw [← Nat.mul_assoc, ← Nat.pow_add]; congr 2; omega
  rw [this, Nat.add_mul_mod_self_left, Nat.mod_eq_of_lt ha]

set_option maxHeartbeats 8000000 in
set_option maxRecDepth 100000 in
theorem walk (A : Option Addr) (n cap : Nat) (f : Nat → Int) (A' : Option Addr) (n' cap' : Nat) (f' : Nat → Int) (more : ByteArray) (w : World) (w0 : n ≤ 9223372036854775807 ∧ row w A n f) (w1 : n' ≤ 9223372036854775807 ∧ row w A' n' f') (_ : more.size ≤ maxLen) :
    Calls Try.prog 5 #[.slice A n cap, .slice A' n' cap', .string more] w fun e w' => e = .returned (.bool true) ∧ Below w.heap.size w w' := by
  obtain ⟨hn, hr⟩ := w0
  obtain ⟨hn', hr'⟩ := w1
  have HC := Lib.hid hr
  have HC' := Lib.hid hr'
  clear hr hr'
  by_cases hn1 : 320 < n
  · go_enter Try.func5, Try.ntmps5
    go_wp2_with (go_at_call 7; refine (Pk.known_any _).mono ?_; rintro e w' ⟨rfl, hb⟩)
    go_ret
    exact ⟨rfl, hb⟩
  by_cases hs1 : 100 < more.size
  · go_enter Try.func5, Try.ntmps5
    go_wp2_with (go_at_call 7; refine (Pk.known_any _).mono ?_; rintro e w' ⟨rfl, hb⟩)
    go_ret
    exact ⟨rfl, hb⟩
  by_cases he : err n f = 0
  · obtain ⟨h1, h2, h3⟩ := err_zero he
    have HN := Lib.hid (New_ok (cap := cap) he HC)
    have H15 := Lib.hid (L_le h2)
    have H3 := Lib.hid h3
    have HLn := Lib.hid (L_length n f)
    clear h2 h3 he
    obtain ⟨i0, hi, hz0, hz1, hz2⟩ := info_parts infoI8
    go_enter Try.func5, Try.ntmps5
    go_wp2_with fail
    refine HN.out.mono ?_
    rintro e W ⟨gt, rfl, t1, _, b1⟩
    have B1 := Lib.hid b1
    have T1 := Lib.hid t1
    clear b1 t1 HN
    go_wp2_with fail
    refine (Open_any _).mono ?_
    rintro e w2 ⟨g, rfl, t2, hg, b2⟩
    have K2 : Hid (kept W w2 g n (L n f) (.slice none 0 0) [] (.slice none 0 0) []) := Lib.hid ⟨t2, rfl, by simp, World.ownsRow_nil _ _ _ _, by omega, b2⟩
    clear t2 hg b2
    go_wp2
    go_loopw [10, 11] (fun vt i wr => ∃ (j : Nat) (ys : List Nat) (v : Value) (bl : List UInt8), i = .int .i64 j ∧ j ≤ n' ∧ j ≤ 60 ∧ ys.length ≤ j ∧ Hid (kept W wr g n (L n f) vt ys v bl))
      (fun _ i _ => 60 - (intOf i).toNat)
    case atStart => exact ⟨0, [], _, _, rfl, by omega, by omega, by simp, K2⟩
    case round =>
      obtain ⟨j, ys, v, bl, rfl, hj, hj60, hyj, K⟩ := hrel
      clear K2
      by_cases hgo : j < n' ∧ j < 60
      · obtain ⟨hjl, hj6⟩ := hgo
        obtain ⟨b, off, rfl, hbl, cy⟩ := HC'.out j hjl
        have HY : Hid (∀ u, Below W.heap.size W u → u.cell? ⟨b, off + j, none⟩ = some (.int .i64 (f' j))) := Lib.hid (fun u hu => ((grows B1.out hu).cell (p := ⟨b, off + j, none⟩) hbl).trans cy)
        clear cy
        obtain ⟨y, hy⟩ : ∃ y, y = f' j := ⟨_, rfl⟩
        rw [← hy] at HY
        clear hy
        have k0 := HY.out _ K.out.hb
        have hzb : zs (L n f) ys ≤ 562949953421312 := by have := zs_le H15.out ys; omega
        have HWr : Hid (Calls Try.prog 18 #[.pointer (some ⟨g, 0, none⟩), .slice A n cap, .int .i64 y] wr fun e w' => e = .returned (.int .i64 (wrE n f y)) ∧ ∃ v2 b2, wrotes W wr w' g n f y v v2 ys bl b2) :=
          Lib.hid ((Write_any y hn (Lib.hid (HC.out.below B1.out)) (Lib.hid K.out.hb) K.out.hg (Lib.hid K.out.ht) hzb).mono (fun e w' ⟨he, v', l', t', n', o', _⟩ => ⟨he, v', l', t', n', o'⟩))
        rcases wrE_cases n f y with ⟨he, hv⟩ | ⟨_, hv, _⟩ | ⟨_, hv, k, rfl, hk, h0⟩
        · have HE := Lib.hid (show wrE n f y ≠ 0 by rw [hv]; exact he)
          have he' : (wrE n f y == 0) = false := by rw [hv]; simpa using he
          clear he hv
          go_wp2_with fail
          refine HWr.out.mono ?_
          rintro e w3 ⟨rfl, v3, b3, hw3⟩
          have K3 := Lib.hid (kept_same K.out hw3 HE.out)
          clear hw3
          go_wp2
          go_roundw
          case rel => exact ⟨j + 1, ys, v3, b3, by go_num, by omega, by omega, by omega, K3⟩
          case measure => simp [intOf]; omega
        · have HE := Lib.hid (show wrE n f y ≠ 0 by rw [hv]; decide)
          have he' : (wrE n f y == 0) = false := by rw [hv]; rfl
          clear hv
          go_wp2_with fail
          refine HWr.out.mono ?_
          rintro e w3 ⟨rfl, v3, b3, hw3⟩
          have K3 := Lib.hid (kept_same K.out hw3 HE.out)
          clear hw3
          go_wp2
          go_roundw
          case rel => exact ⟨j + 1, ys, v3, b3, by go_num, by omega, by omega, by omega, K3⟩
          case measure => simp [intOf]; omega
        · have HE := Lib.hid hv
          rw [hv] at HWr
          clear hv
          go_wp2_with fail
          refine HWr.out.mono ?_
          rintro e w3 ⟨rfl, v3, b3, hw3⟩
          have H3' := Lib.hid hw3
          have HP := Lib.hid (after_put K.out hw3.ho)
          clear hw3 k0
          have k3 := HY.out _ HP.out.2
          go_wp2_with (at_builtin; refine wpList_append_own_at _ rfl _ _ 22 rfl W.heap.size 3 i0 (.int .i64 0) 1 8 Try.underlying22 hi hz0 hz1 hz2 rfl (by decide) _ ys.length (vals ys) rfl (HP.out.1.alloc _) ⟨w3.heap.size, 0, none⟩ 1 1 [.int .i64 (k : Int)] rfl rfl (cell_one_new _ _ _) ?a2 ?a3 ?a4 ?a5 ?_)
          case a2 => intro q hq; simp at hq; subst hq; rfl
          case a3 => unfold maxLen; omega
          case a4 => omega
          case a5 => have := HP.out.2.size; simp; omega
          intro v4 w4 hown4 hgrow _ _
          have K4 := Lib.hid (kept_more K.out H3'.out HE.out hk h0 hown4 hgrow)
          clear hown4 hgrow k3
          go_wp2
          go_roundw
          case rel => exact ⟨j + 1, ys ++ [k], v3, b3, by go_num, by omega, by omega, by simp; omega, K4⟩
          case measure => simp [intOf]; omega
      · obtain ⟨A2, cp, hvt⟩ := row_any K.out.hr
        subst hvt
        have hzb := zs_le H15.out ys
        have HLen := Lib.hid K.out.ht.len
        have HLt := Lib.hid K.out.ht.lt
        have HNs := Lib.hid K.out.hn
        have HOk := Lib.hid K.out.ok
        obtain ⟨l, hl⟩ : ∃ l, l = L n f := ⟨_, rfl⟩
        rw [← hl] at K T1 H15 H3 HLn HLen HLt HNs HOk hzb
        clear hl
        obtain ⟨Z, hZ⟩ : ∃ Z, Z = zs l ys := ⟨_, rfl⟩
        have HZ := Lib.hid hZ
        have KT : Hid (wt W.heap.size wr g v bl Z) := Lib.hid (by rw [hZ]; exact K.out.ht)
        rw [← hZ] at HLen HLt hzb
        have htl : ys.length ≤ 60 := by omega
        have HTx : Hid (Calls Try.prog 21 #[.pointer (some ⟨g, 0, none⟩)] wr fun e w' => ∃ s0 : ByteArray, e = .returned (.string s0) ∧ Hid (s0.data.toList = bl ∧ s0.size = bl.length) ∧ s0.size ≤ 200 ∧ wr = w') := Lib.hid ((Bx.Text_any KT.out).mono (fun e w' ⟨he, hw⟩ => ⟨_, he, Lib.hid ⟨rfl, rfl⟩, by show bl.length ≤ 200; rw [HLen.out]; omega, hw⟩))
        clear hZ
        rcases (show ¬ j < n' ∨ (j < n' ∧ ¬ j < 60) by omega) with hx | ⟨hx, hx'⟩
        all_goals
          clear hgo
          go_wp2_with fail
          refine (Bx.Len_any KT.out.b).mono ?_
          rintro e w' ⟨rfl, rfl⟩
          go_wp2_with fail
          refine HTx.out.mono ?_
          rintro e w' ⟨s0, rfl, HS0, hs0, rfl⟩
          go_wp2_with fail
          have HSz : Hid ((s0 ++ more).size = bl.length + more.size) := Lib.hid (by rw [ByteArray.size_append, HS0.out.2])
          have HNum : Hid (num (s0 ++ more).data.toList = num bl + 2 ^ (8 * bl.length) * num more.data.toList) := Lib.hid (by rw [ByteArray.data_append, Array.toList_append, num_append, HS0.out.1])
          obtain ⟨s, hs⟩ : ∃ s, s = s0 ++ more := ⟨_, rfl⟩
          rw [← hs] at HSz HNum ⊢
          clear hs
          have hsz : s.size ≤ 281474976710656 := by rw [HSz.out, HLen.out]; omega
          have hZ8 : Z ≤ 8 * s.size := by rw [HSz.out, HLen.out]; omega
          have HMod : Hid (num s.data.toList % 2 ^ Z = ns l ys) := Lib.hid (by rw [HNum.out, low_bits' HLt.out (by rw [HLen.out]; omega)]; exact HNs.out)
          refine (New_ok s 0 _ hsz (by omega)).mono ?_
          rintro e w3 ⟨r, rfl, r3, hr3, b3⟩
          have K3 : Hid (back W w3 gt n r l (.slice A2 ys.length cp) ys s 0) := Lib.hid
            ⟨own_only (S := fun _ => False) K.out.hr (Only.of_below b3) (fun _ _ e => e), r3, tabl.below T1.out (K.out.hb.trans (b3.mono K.out.hb.size)), by rw [hr3]; exact K.out.hb.size, K.out.hb.trans (b3.mono K.out.hb.size)⟩
          clear r3 hr3 b3 K KT
          go_wp2
          go_loopw [15] (fun x w4 => ∃ j : Nat, x = .int .i64 j ∧ j ≤ ys.length ∧ Hid (back W w4 gt n r l (.slice A2 ys.length cp) ys s j)) (fun x _ => ys.length - (intOf x).toNat)
          case atStart => exact ⟨0, rfl, by omega, K3⟩
          case round =>
            obtain ⟨i, rfl, hiy, K⟩ := hrel
            clear K3
            by_cases hlt : i < ys.length
            · obtain ⟨y, hy⟩ : ∃ y, ys[i]? = some y := ⟨_, List.getElem?_eq_getElem hlt⟩
              have hyo := HOk.out y (List.mem_of_getElem? hy)
              obtain ⟨n1, n2, _⟩ := ns_at (l := l) hy
              rw [← HZ.out] at n2
              have hg := got_at (left := 8 * s.size - zs l (ys.take i)) H15.out H3.out hy (by rw [HLn.out]; exact hyo.1) hyo.2 HZ.out HMod.out (by omega)
              have HRd : Hid (Calls Try.prog 14 #[.pointer (some ⟨gt, 0, none⟩), .pointer (some ⟨r, 0, none⟩)] wr fun e w' => e = .returned (.tuple #[.int .i64 y, .int .i64 0]) ∧ back W w' gt n r l (.slice A2 ys.length cp) ys s (i + 1)) := Lib.hid (by
                refine (Read_any H15.out H3.out (by rw [HLn.out]; exact h1) HLn.out.symm K.out.ht K.out.hd hsz (by omega)).mono ?_
                rintro e w' ⟨rfl, d', t', o'⟩
                have e1 : gotS l (num s.data.toList) (zs l (ys.take i)) (8 * s.size - zs l (ys.take i)) = (y : Int) := by simp [gotS, hg]
                have e2 : gotE l (num s.data.toList) (zs l (ys.take i)) (8 * s.size - zs l (ys.take i)) = 0 := by simp [gotE, hg]
                have e3 : gotA l (num s.data.toList) (zs l (ys.take i)) (8 * s.size - zs l (ys.take i)) = zs l (ys.take (i + 1)) := by simp only [gotA, hg]; exact n1.symm
                rw [e3] at d'
                exact ⟨by rw [e1, e2], K.out.moved o' d' t'⟩)
              have HV := Lib.hid (vals_get hy)
              obtain ⟨tb, hA⟩ := row_some K.out.hr (by omega)
              subst hA
              clear hy hyo n1 n2 hg
              go_wp2_with fail
              refine HRd.out.mono ?_
              rintro e w5 ⟨rfl, k5⟩
              have K5 := Lib.hid k5
              have c5 : w5.cell? ⟨tb, i, none⟩ = some (.int .i64 (y : Int)) := by
                have h := k5.hr.cells (g := tb) rfl i _ HV.out
                rw [add_plain, Nat.zero_add] at h
                exact h
              clear k5
              go_wp2
              go_roundw
              case rel => exact ⟨i + 1, by go_num, by omega, K5⟩
              case measure => simp [intOf]; omega
            · have hie := Lib.hid (show i = ys.length by omega)
              have HRz : Hid (rd wr r s Z) := Lib.hid (by
                have h := K.out.hd
                rw [hie.out, List.take_length, ← HZ.out] at h
                exact h)
              go_wp2_with fail
              refine (At_any HRz.out).mono ?_
              rintro e w' ⟨rfl, rfl⟩
              go_wp2_with (go_at_call 7; refine (Pk.known_any _).mono ?_; rintro e w' ⟨rfl, hb⟩)
              go_ret
              exact ⟨rfl, grows B1.out (K.out.hb.trans (hb.mono K.out.hb.size))⟩
  · have HN := Lib.hid (New_no (cap := cap) hn he HC)
    obtain ⟨e, hee⟩ : ∃ e, e = err n f := ⟨_, rfl⟩
    rw [← hee] at HN he
    have he' : (e != 0) = true := by simpa using he
    clear hee he
    go_enter Try.func5, Try.ntmps5
    go_wp2_with fail
    refine HN.out.mono ?_
    rintro e w1 ⟨rfl, b1⟩
    have B1 := Lib.hid b1
    clear b1
    go_wp2_with fail
    refine (Open_any _).mono ?_
    rintro e w2 ⟨g, rfl, t2, _, b2⟩
    have B2 := Lib.hid (grows B1.out b2)
    clear t2 b2 B1
    go_wp2_with (go_at_call 7; refine (Pk.known_any _).mono ?_; rintro e w' ⟨rfl, hb⟩)
    go_ret
    exact ⟨rfl, grows B2.out hb⟩

set_option maxRecDepth 100000 in
theorem lifted (os : Os) (started : os.Started) (H : Type) (enc : TypeId × Value → H) :
    ReturnsInHanded {} Try.checked os 5 .any (Rows.prefixBackSpec.pre6 enc Try.prog Try.f5 Rows.prefixBackRow.domain false) (Rows.prefixBackSpec.post enc Try.prog Try.f5 false true false false) := by
  refine returnsInHanded_of_change (C := Try.checked) own started (by kernel_rfl) Try.func5
    (ChangeSpec.witness6 (enc := enc) (C := Try.checked) false ⟨#[], #[.slice none 0 0, .slice none 0 0, .string ByteArray.empty], []⟩ 8 (by kernel_rfl) (by kernel_rfl) (by kernel_rfl) (by kernel_rfl)) ?_
  intro W base args ds gs before hval0 hW _ _
  have hval : ∀ (j : Nat) t v, Try.f5.params[j]? = some t → args[j]? = some v → Value.okWide Try.prog W .any base t v := hval0
  have hW' := hW
  obtain ⟨p, q, hA0, hV, rfl, hfz, hnd⟩ := hW
  have hA : DataW.TrodAll enc Try.prog W 0 (fun _ => true) true Try.f5.params.toList args.toList ds p := hA0
  rw [Try.params5] at hA hval
  obtain ⟨v0, vs0, d0, ds0, p0, q0, hargs, rfl, rfl, h0, r0⟩ := trodAll_cons hA
  obtain ⟨v1, vs1, d1, ds1, p1, q1, rfl, rfl, rfl, h1, r1⟩ := trodAll_cons r0
  obtain ⟨v2, vs2, d2, ds2, p2, q2, rfl, rfl, rfl, h2, r2⟩ := trodAll_cons r1
  obtain ⟨rfl, rfl, rfl⟩ := trodAll_nil r2
  obtain rfl : args = #[v0, v1, v2] := by cases args; simp_all
  obtain ⟨rfl, rfl⟩ := trodVars_none hV
  obtain ⟨A0, n0, c0, f0, rfl, w0⟩ := open_row Try.underlying22 Try.underlying3 (by kernel_rfl) (hval 0 22 v0 rfl rfl) h0
  obtain ⟨A1, n1, c1, f1, rfl, w1⟩ := open_row Try.underlying22 Try.underlying3 (by kernel_rfl) (hval 1 22 v1 rfl rfl) h1
  obtain ⟨a2, rfl, rfl, rfl, w2⟩ := open_string Try.underlying9 (hval 2 9 v2 rfl rfl) h2
  refine (walk A0 n0 c0 f0 A1 n1 c1 f1 a2 W w0 w1 w2).mono fun e W' ⟨he, hb⟩ => ?_
  subst he
  exact ⟨_, rfl, law_post (P := Try.prog) (f := Try.f5) laidOut (by kernel_rfl) (by kernel_rfl) Try.underlying4 rfl hW' rfl hb⟩

theorem proved : Rows.PrefixBackSaid :=
  OpenClaim.holds_of_wide 5 Try.f5 rfl rfl rfl rfl rfl rfl rfl ⟨rfl, rfl, rfl, rfl, rfl⟩ rfl rfl rfl rfl rfl (by kernel_rfl) Try.func5 (by kernel_rfl)
    (of_decide_eq_true (by kernel_rfl)) (by unfold Func.isWrapper; first | (rw [if_pos (by decide +kernel)]; kernel_rfl) | (rw [if_neg (by decide +kernel)]; exact ⟨rfl, rfl⟩))
    (fun os started H enc _ => lifted os started H enc)
#print axioms proved
end Go.Proofs.Ytiakknbgoahgiaa.prefixBack
