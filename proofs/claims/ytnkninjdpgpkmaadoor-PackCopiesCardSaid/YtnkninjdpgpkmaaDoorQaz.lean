/-
  bitrow's Bits where there are enough bits and where not; block.readSize, block.advance, block.FixedLits, block.FixedDists, block.bit.
  block.unfit and block.unwritable: what is wrong of lengths, and of a head that is to be written.
  block.FixedLits and block.FixedDists: new lists; nothing that was there has changed.
  block.readHead and block.Read but for a dynamic head's lengths: what is read is what the numbers say.
  block.Read: what is read is what the numbers say; with an error the reader stands where it stood.
  Conditions: as each theorem says.
-/
import Derived.Test.YtnkninjdpgpkmaaDoorQax
import Derived.Test.YtnkninjdpgpkmaaDoorQay
import Derived.Test.YtnkninjdpgpkmaaDoorQaj
import Derived.Test.YtnkninjdpgpkmaaDoorQah
namespace Go.Proofs.YtnkninjdpgpkmaaDoor.Kc
open Go.RowKit Go.Proofs.YtnkninjdpgpkmaaDoor.Vm Go.Proofs.YtnkninjdpgpkmaaDoor.Vo Go.Proofs.YtnkninjdpgpkmaaDoor.Bw Go.Proofs.YtnkninjdpgpkmaaDoor.Bm Go.Proofs.YtnkninjdpgpkmaaDoor.Bt Go.Proofs.YtnkninjdpgpkmaaDoor.Br Go.Proofs.YtnkninjdpgpkmaaDoor.Bp Go.Proofs.YtnkninjdpgpkmaaDoor.Bs Go.Proofs.YtnkninjdpgpkmaaDoor.Na Go.Proofs.YtnkninjdpgpkmaaDoor.Nm Go.Proofs.YtnkninjdpgpkmaaDoor.Ko Go.Proofs.YtnkninjdpgpkmaaDoor.Nf Go.Proofs.YtnkninjdpgpkmaaDoor.Ka Go.Proofs.YtnkninjdpgpkmaaDoor.Kb Go.Proofs.YtnkninjdpgpkmaaDoor.Km

section
variable {w : World} {g : Nat} {s : ByteArray} {a : Nat}
theorem chk_has {m : Nat} (hm : m ≤ 32) (h : a + m ≤ 8 * s.size) : chk s a (m : Int) = 0 := by
  unfold chk
  have : cnt (m : Int) = true := by simp [cnt]; omega
  rw [if_pos this, if_neg (by omega)]
theorem chk_short {m : Nat} (hm : m ≤ 32) (h : 8 * s.size - a < m) : chk s a (m : Int) = 2 := by
  unfold chk
  have : cnt (m : Int) = true := by simp [cnt]; omega
  rw [if_pos this, if_pos (by omega)]
theorem Bits_has {z : Int} {m : Nat} (hz : z = (m : Int)) (hm : m ≤ 32) (h : rd w g s a) (hs : s.size ≤ 281474976710656) (ha : a + m ≤ 8 * s.size) :
    Calls Tryd.prog 70 #[.pointer (some ⟨g, 0, none⟩), .int .i64 z] w fun e w' => e = .returned (.tuple #[.int .i64 (peekN (num s.data.toList) a m : Nat), .int .i64 0]) ∧ rd w' g s (a + m) ∧ Only (At g) w w' := by
  subst hz
  have hc := chk_has hm ha
  have hcn : cnt (m : Int) = true := by simp [cnt]; omega
  refine (Bits_any (m : Int) h hs (by omega)).mono ?_
  rintro e w' ⟨rfl, r1, o1⟩
  have e1 : bitsV s a (m : Int) = (peekN (num s.data.toList) a m : Nat) := by unfold bitsV peekR; rw [if_pos hc, if_pos hcn, Int.toNat_natCast]
  have e2 : moved s a (m : Int) = a + m := by unfold moved; rw [if_pos hc]; rfl
  rw [e2] at r1
  exact ⟨by rw [e1, hc], r1, o1⟩
theorem Bits_short {z : Int} {m : Nat} (hz : z = (m : Int)) (hm : m ≤ 32) (h : rd w g s a) (hs : s.size ≤ 281474976710656) (ha : a ≤ 8 * s.size) (hl : 8 * s.size - a < m) :
    Calls Tryd.prog 70 #[.pointer (some ⟨g, 0, none⟩), .int .i64 z] w fun e w' => e = .returned (.tuple #[.int .i64 0, .int .i64 2]) ∧ rd w' g s a ∧ Only (At g) w w' := by
  subst hz
  have hc := chk_short (a := a) hm hl
  refine (Bits_any (m : Int) h hs ha).mono ?_
  rintro e w' ⟨rfl, r1, o1⟩
  have e1 : bitsV s a (m : Int) = 0 := by unfold bitsV; rw [if_neg (by rw [hc]; decide)]
  have e2 : moved s a (m : Int) = a := by unfold moved; rw [if_neg (by rw [hc]; decide)]
  rw [e2] at r1
  exact ⟨by rw [e1, hc], r1, o1⟩
end

theorem xor16 {x : Nat} (h : x < 65536) : bits .xor .i64 (x : Int) 65535 = ((65535 - x : Nat) : Int) := by
  have h0 : x ^^^ 65535 = 65535 - x := by
    have h1 := congrArg BitVec.toNat (BitVec.xor_allOnes (x := BitVec.ofNat 16 x))
    rw [BitVec.toNat_xor, BitVec.toNat_not, BitVec.toNat_ofNat, BitVec.toNat_allOnes, Nat.mod_eq_of_lt h] at h1
    exact h1
  unfold bits
  have e : (BitVec.ofInt 64 (x : Int) ^^^ BitVec.ofInt 64 ((65535 : Nat) : Int)).toNat = 65535 - x := by
    rw [BitVec.toNat_xor, ofInt_u64 x (by omega), ofInt_u64 65535 (by omega), h0]
  show IntKind.i64.wrap _ = _
  rw [IntWalk.i64_left]
  have h4 : wrap64 ((65535 - x : Nat) : Int) = ((65535 - x : Nat) : Int) := wrap64_in (by omega) (by omega)
  rw [← h4]
  exact congrArg (fun n : Nat => wrap64 (n : Int)) e
theorem peek_lo (N a : Nat) : peekN N a 32 % 65536 = peekN N a 16 := by
  have h := peekN_add N a 16 16
  have h1 := peekN_lt N a 16
  rw [show (16 + 16 : Nat) = 32 from rfl] at h
  omega
theorem peek_hi (N a : Nat) : peekN N a 32 / 65536 = peekN N (a + 16) 16 := by
  have h := peekN_add N a 16 16
  have h1 := peekN_lt N a 16
  rw [show (16 + 16 : Nat) = 32 from rfl] at h
  omega

theorem bit_any (b : Bool) (w : World) : Calls Tryd.prog 43 #[.bool b] w fun e w' => e = .returned (.int .i64 (b.toNat : Nat)) ∧ w = w' := by
  cases b
  all_goals
    go_enter Tryd.func43, Tryd.ntmps43
    go_wp2
    go_ret
    exact ⟨rfl, rfl⟩

end Go.Proofs.YtnkninjdpgpkmaaDoor.Kc
namespace Go.Proofs.YtnkninjdpgpkmaaDoor.Ku
open Go.RowKit Go.Proofs.YtnkninjdpgpkmaaDoor.Vm Go.Proofs.YtnkninjdpgpkmaaDoor.Vo Go.Proofs.YtnkninjdpgpkmaaDoor.Bw Go.Proofs.YtnkninjdpgpkmaaDoor.Na Go.Proofs.YtnkninjdpgpkmaaDoor.Nm Go.Proofs.YtnkninjdpgpkmaaDoor.Nh Go.Proofs.YtnkninjdpgpkmaaDoor.Km Go.Proofs.YtnkninjdpgpkmaaDoor.Ks

set_option maxRecDepth 100000 in
theorem unfit_any {w : World} {A1 A2 : Option Addr} {n1 c1 n2 c2 : Nat} {f1 f2 : Nat → Int} (h1 : 257 ≤ n1) (hn1 : n1 ≤ 9223372036854775807) (hn2 : n2 ≤ 9223372036854775807) (R1 : Hid (row w A1 n1 f1)) (R2 : Hid (row w A2 n2 f2)) :
    Calls Tryd.prog 52 #[.slice A1 n1 c1, .slice A2 n2 c2] w fun e w' => e = .returned (.int .i64 (fitsI n1 f1 n2 f2)) ∧ Below w.heap.size w w' := by
  obtain ⟨b, off, hA, _, hc⟩ := R1.out 256 (by omega)
  subst hA
  by_cases h0 : f1 256 = 0
  · have HS := Lib.hid (show fitsI n1 f1 n2 f2 = 21 by unfold fitsI; rw [if_pos h0])
    rw [h0] at hc
    clear h0
    go_enter Tryd.func52, Tryd.ntmps52
    go_wp2
    go_ret
    exact ⟨ret_i64 HS.out.symm, Below.refl _ _⟩
  · obtain ⟨x, hx⟩ : ∃ x, x = f1 256 := ⟨_, rfl⟩
    rw [← hx] at hc
    have hx0 : (x == 0) = false := by rw [hx]; simpa using h0
    have HF1 := Lib.hid (Fits_any (cap := c1) true hn1 R1)
    obtain ⟨y, hy⟩ : ∃ y, y = fit n1 f1 true := ⟨_, rfl⟩
    rw [← hy] at HF1
    by_cases hf : y = 0
    · have HS := Lib.hid (show fitsI n1 f1 n2 f2 = fit n2 f2 true by unfold fitsI; rw [if_neg h0, if_neg (by rw [← hy]; omega)])
      subst hf
      clear hy hx h0
      go_enter Tryd.func52, Tryd.ntmps52
      go_wp2_with fail
      refine HF1.out.mono ?_
      rintro e w1 ⟨rfl, b1⟩
      have B1 := Lib.hid b1
      clear b1
      go_wp2_with fail
      refine (Fits_any (cap := c2) true hn2 (Lib.hid (R2.out.below B1.out))).mono ?_
      rintro e w2 ⟨rfl, b2⟩
      have B2 := Lib.hid b2
      clear b2
      go_wp2
      go_ret
      exact ⟨ret_i64 HS.out.symm, grows B1.out B2.out⟩
    · have HS := Lib.hid (show fitsI n1 f1 n2 f2 = y by unfold fitsI; rw [if_neg h0, if_pos (by rw [← hy]; exact hf), hy])
      have hne : (y != 0) = true := by simpa using hf
      clear hy hx h0 hf
      go_enter Tryd.func52, Tryd.ntmps52
      go_wp2_with fail
      refine HF1.out.mono ?_
      rintro e w1 ⟨rfl, b1⟩
      have B1 := Lib.hid b1
      clear b1
      go_wp2
      go_ret
      exact ⟨ret_i64 HS.out.symm, B1.out⟩
end Go.Proofs.YtnkninjdpgpkmaaDoor.Ku
namespace Go.Proofs.YtnkninjdpgpkmaaDoor.Kd
open Go.RowKit Go.Proofs.YtnkninjdpgpkmaaDoor.Bw Go.Proofs.YtnkninjdpgpkmaaDoor.Na Go.Proofs.YtnkninjdpgpkmaaDoor.Nm Go.Proofs.YtnkninjdpgpkmaaDoor.Ko Go.Proofs.YtnkninjdpgpkmaaDoor.Nf Go.Proofs.YtnkninjdpgpkmaaDoor.Ka Go.Proofs.YtnkninjdpgpkmaaDoor.Kb Go.Proofs.YtnkninjdpgpkmaaDoor.Km

/-- Natural numbers as ints. -/
def ofN (l : List Nat) : List Int := l.map (fun x : Nat => (x : Int))
theorem ofN_length (l : List Nat) : (ofN l).length = l.length := by simp [ofN]
theorem ofN_at (l : List Nat) (i : Nat) : at' (ofN l) i = ix l i := by
  unfold at' ofN ix nth
  rw [List.getD_eq_getElem?_getD, List.getD_eq_getElem?_getD, List.getElem?_map]
  cases l[i]? <;> simp
theorem ofN_append (a b : List Nat) : ofN (a ++ b) = ofN a ++ ofN b := by simp [ofN]
theorem ofN_rep (n x : Nat) : ofN (List.replicate n x) = List.replicate n (x : Int) := by simp [ofN]
theorem ints_lower {w : World} {b b' : Nat} {e : TypeId} {v : Value} {l : List Int} (h : ints w b e v l) (hb : b' ≤ b) : ints w b' e v l := by
  refine ⟨h.1, ?_⟩
  rcases h.2 with h0 | ⟨g, cap, cur, e1, e2, e3⟩
  · exact .inl h0
  · exact .inr ⟨g, cap, cur, e1, Nat.le_trans hb e2, e3⟩
/-- A list in memory that reads as l, in a block of ints. -/
def lst (w : World) (v : Value) (l : List Nat) : Prop := ints w 0 3 v (ofN l)
theorem lst_of {w : World} {base : Nat} {v : Value} {l : List Nat} (h : ints w base 3 v (ofN l)) : lst w v l := ints_lower h (Nat.zero_le _)
theorem lst.below {w w' : World} {v : Value} {l : List Nat} (h : lst w v l) (k : Below w.heap.size w w') : lst w' v l := ints.below h k
theorem lst_nil (w : World) : lst w (.slice none 0 0) [] := ints_nil w 0 _
theorem lst.row {w : World} {A : Option Addr} {n c : Nat} {l : List Nat} (h : lst w (.slice A n c) l) : n = l.length ∧ row w A n (ix l) := by
  obtain ⟨A', c', e⟩ := ints.form h
  injection e with _ e _
  rw [ofN_length] at e
  have hr := ints.row h
  rw [ofN_length, ← e] at hr
  exact ⟨e, hr.congr (fun i _ => ofN_at l i)⟩
/-- It stays where only blocks of other types have changed. -/
theorem lst.off {w w' : World} {S : Nat → Prop} {v : Value} {l : List Nat} (h : lst w v l) (k : Only S w w') (hS : ∀ i, S i → ∃ t cs, Blk w i t cs ∧ t ≠ 3) : lst w' v l :=
  ints.only h k (fun i hi hs => by
    obtain ⟨t, cs, hb, ht⟩ := hS i hs
    exact own_apart h hb (fun e => ht e.symm) i hi rfl)

def S4 (a b c d : Nat) : Nat → Option Addr | 0 => some ⟨a, 0, none⟩ | 1 => some ⟨b, 0, none⟩ | 2 => some ⟨c, 0, none⟩ | _ => some ⟨d, 0, none⟩
def N4 : Nat → Nat | 0 => 144 | 1 => 112 | 2 => 24 | _ => 8
def F4 : Nat → Nat → Int | 0 => fun _ => 8 | 1 => fun _ => 9 | 2 => fun _ => 7 | _ => fun _ => 8
theorem cat4 : cat N4 F4 4 = ofN fixL := by
  show ((([] ++ upto 144 (fun _ => (8 : Int))) ++ upto 112 (fun _ => (9 : Int))) ++ upto 24 (fun _ => (7 : Int))) ++ upto 8 (fun _ => (8 : Int)) = _
  rw [upto_const, upto_const, upto_const, upto_const]
  unfold fixL
  rw [ofN_append, ofN_append, ofN_append, ofN_rep, ofN_rep, ofN_rep, ofN_rep, List.nil_append]
  rfl

set_option maxRecDepth 100000 in
theorem FixedLits_any (w : World) : Calls Tryd.prog 24 #[] w fun e w' => ∃ v, e = .returned v ∧ ints w' w.heap.size 3 v (ofN fixL) ∧ Below w.heap.size w w' := by
  go_enter Tryd.func24, Tryd.ntmps24
  go_wp2_with fail
  refine (equal_any 8 (n := 144) 144 rfl (by omega) (by omega) w).mono ?_
  rintro e w1 ⟨g1, rfl, k1, p1, b1⟩
  have K1 := Lib.hid k1; have B1 := Lib.hid b1; clear k1 b1
  go_wp2_with fail
  refine (equal_any 9 (n := 112) 112 rfl (by omega) (by omega) w1).mono ?_
  rintro e w2 ⟨g2, rfl, k2, p2, b2⟩
  have K2 := Lib.hid k2; have B2 := Lib.hid b2; clear k2 b2
  go_wp2_with fail
  refine (equal_any 7 (n := 24) 24 rfl (by omega) (by omega) w2).mono ?_
  rintro e w3 ⟨g3, rfl, k3, p3, b3⟩
  have K3 := Lib.hid k3; have B3 := Lib.hid b3; clear k3 b3
  go_wp2_with fail
  refine (equal_any 8 (n := 8) 8 rfl (by omega) (by omega) w3).mono ?_
  rintro e w4 ⟨g4, rfl, k4, p4, b4⟩
  have K4 := Lib.hid k4; have B4 := Lib.hid b4; clear k4 b4
  go_wp2_with fail
  obtain ⟨w5, hw5⟩ : ∃ w5, w5 = w4.alloc (.cells #[.slice (some ⟨g1, 0, none⟩) 144 144, .slice (some ⟨g2, 0, none⟩) 112 112, .slice (some ⟨g3, 0, none⟩) 24 24, .slice (some ⟨g4, 0, none⟩) 8 8] 36) := ⟨_, rfl⟩
  have B5 : Hid (Below w4.heap.size w4 w5) := Lib.hid (by rw [hw5]; exact below_alloc _ _)
  have HC : Hid (lists w5 w4.heap.size 4 (S4 g1 g2 g3 g4) N4 N4 F4) := Lib.hid ⟨by rw [hw5, size_alloc]; omega, fun i hi => by
    have kb : Blk w5 w4.heap.size 36 #[.slice (some ⟨g1, 0, none⟩) 144 144, .slice (some ⟨g2, 0, none⟩) 112 112, .slice (some ⟨g3, 0, none⟩) 24 24, .slice (some ⟨g4, 0, none⟩) 8 8] := by rw [hw5]; exact Blk.fresh _ _ _
    rw [kb.cell]
    rcases (show i = 0 ∨ i = 1 ∨ i = 2 ∨ i = 3 by omega) with rfl | rfl | rfl | rfl
    · exact ⟨rfl, row_of_blk ((((K1.out.below B2.out).below B3.out).below B4.out).below B5.out)⟩
    · exact ⟨rfl, row_of_blk (((K2.out.below B3.out).below B4.out).below B5.out)⟩
    · exact ⟨rfl, row_of_blk ((K3.out.below B4.out).below B5.out)⟩
    · exact ⟨rfl, row_of_blk (K4.out.below B5.out)⟩⟩
  rw [← hw5]
  have HB : Hid (Below w.heap.size w w5) := Lib.hid (grows (grows (grows (grows B1.out B2.out) B3.out) B4.out) B5.out)
  have HL : Hid ((cat N4 F4 4).length = 288) := Lib.hid (by rw [cat4, ofN_length, fixL_length])
  clear hw5
  refine (Concat_any (k := 4) (by omega) (by rw [HL.out]; omega) (by rw [HL.out]; omega) HC).mono ?_
  rintro e w6 ⟨v, rfl, k6, b6⟩
  have K6 := Lib.hid k6; have B6 := Lib.hid b6; clear k6 b6
  obtain ⟨A6, c6, hv⟩ := K6.out.form
  rw [HL.out] at hv
  subst hv
  go_wp2
  go_ret
  refine ⟨_, rfl, ?_, grows HB.out B6.out⟩
  have := K6.out
  rw [cat4] at this
  exact ints_lower this HB.out.size

theorem FixedDists_any (w : World) : Calls Tryd.prog 25 #[] w fun e w' => ∃ v, e = .returned v ∧ ints w' w.heap.size 3 v (ofN fixD) ∧ Below w.heap.size w w' := by
  go_enter Tryd.func25, Tryd.ntmps25
  go_wp2_with fail
  refine (equal_any 5 (n := 32) 32 rfl (by omega) (by omega) w).mono ?_
  rintro e w1 ⟨g1, rfl, k1, p1, b1⟩
  have K1 := Lib.hid k1; have B1 := Lib.hid b1; clear k1 b1
  go_wp2
  go_ret
  refine ⟨_, rfl, ?_, B1.out⟩
  have := ints_of_blk K1.out p1 (by omega)
  rw [upto_const] at this
  unfold fixD
  rw [ofN_rep]
  exact this
end Go.Proofs.YtnkninjdpgpkmaaDoor.Kd
namespace Go.Proofs.YtnkninjdpgpkmaaDoor.Ke
open Go.RowKit Go.Proofs.YtnkninjdpgpkmaaDoor.Vm Go.Proofs.YtnkninjdpgpkmaaDoor.Vo Go.Proofs.YtnkninjdpgpkmaaDoor.Bw Go.Proofs.YtnkninjdpgpkmaaDoor.Bm Go.Proofs.YtnkninjdpgpkmaaDoor.Br Go.Proofs.YtnkninjdpgpkmaaDoor.Bs Go.Proofs.YtnkninjdpgpkmaaDoor.Na Go.Proofs.YtnkninjdpgpkmaaDoor.Nm Go.Proofs.YtnkninjdpgpkmaaDoor.Ko Go.Proofs.YtnkninjdpgpkmaaDoor.Nf Go.Proofs.YtnkninjdpgpkmaaDoor.Ka Go.Proofs.YtnkninjdpgpkmaaDoor.Kb Go.Proofs.YtnkninjdpgpkmaaDoor.Km Go.Proofs.YtnkninjdpgpkmaaDoor.Kc Go.Proofs.YtnkninjdpgpkmaaDoor.Kd

/-- A head as a value. -/
abbrev hv (b : Bool) (k z : Int) (v1 v2 : Value) : Value := .agg #[.bool b, .int .i64 k, .int .i64 z, v1, v2]
/-- A head in memory. -/
def isH (w : World) (v : Value) (h : Hd) : Prop := ∃ v1 v2, v = hv h.fin h.kind h.size v1 v2 ∧ lst w v1 h.lits ∧ lst w v2 h.dists
theorem isH.below {w w' : World} {v : Value} {h : Hd} (k : isH w v h) (b : Below w.heap.size w w') : isH w' v h := by
  obtain ⟨v1, v2, e, l1, l2⟩ := k
  exact ⟨v1, v2, e, l1.below b, l2.below b⟩
theorem isH.off {w w' : World} {S : Nat → Prop} {v : Value} {h : Hd} (k : isH w v h) (o : Only S w w') (hS : ∀ i, S i → ∃ t cs, Blk w i t cs ∧ t ≠ 3) : isH w' v h := by
  obtain ⟨v1, v2, e, l1, l2⟩ := k
  exact ⟨v1, v2, e, l1.off o hS, l2.off o hS⟩
/-- What readHead answers: what is wrong, and, if nothing is, the head, with the reader behind it. -/
def rdH (g : Nat) (s : ByteArray) (a : Nat) (w : World) (e : Ending) (w' : World) : Prop :=
  ∃ b k z A1 n1 c1 A2 n2 c2, e = .returned (.tuple #[hv b k z (.slice A1 n1 c1) (.slice A2 n2 c2), .int .i64 (headM (num s.data.toList) (8 * s.size) a).1]) ∧
    ((headM (num s.data.toList) (8 * s.size) a).1 = 0 → isH w' (hv b k z (.slice A1 n1 c1) (.slice A2 n2 c2)) (headM (num s.data.toList) (8 * s.size) a).2.1 ∧ rd w' g s (headM (num s.data.toList) (8 * s.size) a).2.2) ∧ Only (At g) w w'

/-- What readLengths answers. -/
def rdL (g : Nat) (s : ByteArray) (a : Nat) (w : World) (e : Ending) (w' : World) : Prop :=
  ∃ A1 n1 c1 A2 n2 c2, e = .returned (.tuple #[.slice A1 n1 c1, .slice A2 n2 c2, .int .i64 (dynM (num s.data.toList) (8 * s.size) a).1]) ∧
    ((dynM (num s.data.toList) (8 * s.size) a).1 = 0 → ints w' w.heap.size 3 (.slice A1 n1 c1) (ofN (dynM (num s.data.toList) (8 * s.size) a).2.1.1) ∧ ints w' w.heap.size 3 (.slice A2 n2 c2) (ofN (dynM (num s.data.toList) (8 * s.size) a).2.1.2) ∧ rd w' g s (dynM (num s.data.toList) (8 * s.size) a).2.2) ∧ Only (At g) w w'
/-- The zero head's cells. -/
abbrev z5 : Array Value := #[.bool false, .int .i64 0, .int .i64 0, .slice none 0 0, .slice none 0 0]
theorem one5 (b : Bool) (k z : Int) (A1 : Option Addr) (n1 c1 : Nat) (A2 : Option Addr) (n2 c2 : Nat) : (#[.bool b, .int .i64 k, .int .i64 z, .slice A1 n1 c1, .slice A2 n2 c2] : Array Value).all (·.oneCell') = true := by simp [Value.oneCell']
theorem sizeH : (Tryd.prog.info? 77).map (·.size) = some 5 := by kernel_rfl
theorem results_cell2 {P : Program} {fn : Func} {p u : Tmp} {ty : TypeId} (h : fn.results = #[.cell p ty, .tmp u]) (tmps : Array Value) (w : World) (g : Nat) (t : TypeId) (cs : Array Value) (d : TypeDesc) (x : Value)
    (hp : tmps.getD p undef = .pointer (some ⟨g, 0, none⟩)) (hx : tmps.getD u undef = x) (hg : Blk w g t cs) (hu : P.underlying ty = some d) (hd : (match d with | .struct _ | .array _ _ => true | _ => false) = true) (hi : (P.info? ty).map (·.size) = some cs.size) :
    (results fn tmps).run P w = .ok (.tuple #[.agg cs, x]) w := by
  rw [results_cell_tmp h, hp, hx]
  simp [asAddr, run_loadVar_row w g t ty cs (0, 0) d hg hu hd hi]

theorem only_row {S : Nat → Prop} {a b : World} (h : Only S a b) {g : Nat} (hg : S g) (cs : Array Value) : Only S a (b.setRow g cs) :=
  ⟨h.os, h.tape, h.output, by rw [setRow_size]; exact h.size, fun k hk hS => (setRow_other b g k cs (fun e => hS (by rw [e]; exact hg))).trans (h.block k hk hS)⟩
/-- Two blocks of heads alone. -/
def two (H R : Nat) (k : Nat) : Prop := k = H ∨ k = R
theorem only_two {H R : Nat} (w : World) (u v : Value) (cs : Array Value) (i j : Nat) : Only (two H R) w (((w.setCell ⟨H, i, none⟩ u).setCell ⟨H, j, none⟩ v).setRow R cs) :=
  only_row (((Only.refl _ w).store (p := ⟨H, i, none⟩) (.inl (.inl rfl)) _).store (p := ⟨H, j, none⟩) (.inl (.inl rfl)) _) (.inr rfl) cs
theorem only_setRow {S : Nat → Prop} {a b : World} (h : Only S a b) {g : Nat} (hg : a.heap.size ≤ g) (cs : Array Value) : Only S a (b.setRow g cs) :=
  ⟨h.os, h.tape, h.output, by rw [setRow_size]; exact h.size, fun k hk hS => (setRow_other b g k cs (by omega)).trans (h.block k hk hS)⟩

section
variable {w : World} {g : Nat} {s : ByteArray} {a : Nat}
end
end Go.Proofs.YtnkninjdpgpkmaaDoor.Ke
namespace Go.Proofs.YtnkninjdpgpkmaaDoor.Kf
open Go.RowKit Go.Proofs.YtnkninjdpgpkmaaDoor.Vm Go.Proofs.YtnkninjdpgpkmaaDoor.Vo Go.Proofs.YtnkninjdpgpkmaaDoor.Bw Go.Proofs.YtnkninjdpgpkmaaDoor.Bm Go.Proofs.YtnkninjdpgpkmaaDoor.Br Go.Proofs.YtnkninjdpgpkmaaDoor.Bs Go.Proofs.YtnkninjdpgpkmaaDoor.Na Go.Proofs.YtnkninjdpgpkmaaDoor.Nm Go.Proofs.YtnkninjdpgpkmaaDoor.Ko Go.Proofs.YtnkninjdpgpkmaaDoor.Ka Go.Proofs.YtnkninjdpgpkmaaDoor.Kb Go.Proofs.YtnkninjdpgpkmaaDoor.Km Go.Proofs.YtnkninjdpgpkmaaDoor.Ks Go.Proofs.YtnkninjdpgpkmaaDoor.Kc Go.Proofs.YtnkninjdpgpkmaaDoor.Kd Go.Proofs.YtnkninjdpgpkmaaDoor.Ke

/-- What Read answers. -/
def reads (g : Nat) (s : ByteArray) (a : Nat) (w : World) (e : Ending) (w' : World) : Prop :=
  ∃ b k z A1 n1 c1 A2 n2 c2, e = .returned (.tuple #[hv b k z (.slice A1 n1 c1) (.slice A2 n2 c2), .int .i64 (headM (num s.data.toList) (8 * s.size) a).1]) ∧
    isH w' (hv b k z (.slice A1 n1 c1) (.slice A2 n2 c2)) (headM (num s.data.toList) (8 * s.size) a).2.1 ∧ rd w' g s (headM (num s.data.toList) (8 * s.size) a).2.2 ∧ Only (At g) w w'

section
variable {w : World} {g : Nat} {s : ByteArray} {a : Nat}
end
end Go.Proofs.YtnkninjdpgpkmaaDoor.Kf
