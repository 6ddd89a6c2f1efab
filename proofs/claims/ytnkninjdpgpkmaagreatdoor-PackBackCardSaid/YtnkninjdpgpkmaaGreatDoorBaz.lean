/-
  bitrow's Bits where there are enough bits and where not; block.readSize, block.advance, block.FixedLits, block.FixedDists, block.bit.
  block.unfit and block.unwritable: what is wrong of lengths, and of a head that is to be written.
  block.FixedLits and block.FixedDists: new lists; nothing that was there has changed.
  block.readHead and block.Read but for a dynamic head's lengths: what is read is what the numbers say.
  block.Read: what is read is what the numbers say; with an error the reader stands where it stood.
  Conditions: as each theorem says.
-/
import Derived.Test.YtnkninjdpgpkmaaGreatDoorBax
import Derived.Test.YtnkninjdpgpkmaaGreatDoorBay
import Derived.Test.YtnkninjdpgpkmaaGreatDoorBaj
import Derived.Test.YtnkninjdpgpkmaaGreatDoorBah
namespace Go.Proofs.YtnkninjdpgpkmaaGreatDoor.Kc
open Go.RowKit Go.Proofs.YtnkninjdpgpkmaaGreatDoor.Vm Go.Proofs.YtnkninjdpgpkmaaGreatDoor.Vo Go.Proofs.YtnkninjdpgpkmaaGreatDoor.Bw Go.Proofs.YtnkninjdpgpkmaaGreatDoor.Bm Go.Proofs.YtnkninjdpgpkmaaGreatDoor.Bt Go.Proofs.YtnkninjdpgpkmaaGreatDoor.Br Go.Proofs.YtnkninjdpgpkmaaGreatDoor.Bp Go.Proofs.YtnkninjdpgpkmaaGreatDoor.Bs Go.Proofs.YtnkninjdpgpkmaaGreatDoor.Na Go.Proofs.YtnkninjdpgpkmaaGreatDoor.Nm Go.Proofs.YtnkninjdpgpkmaaGreatDoor.Ko Go.Proofs.YtnkninjdpgpkmaaGreatDoor.Nf Go.Proofs.YtnkninjdpgpkmaaGreatDoor.Ka Go.Proofs.YtnkninjdpgpkmaaGreatDoor.Kb Go.Proofs.YtnkninjdpgpkmaaGreatDoor.Km

section
variable {w : World} {g : Nat} {s : ByteArray} {a : Nat}
theorem chk_has {m : Nat} (hm : m ≤ 32) (h : a + m ≤ 8 * s.size) : chk s a (m : Int) = 0 := by
  unfold chk
  have : cnt (m : Int) = true := by simp [cnt]; omega
  rw [if_pos this, if_neg (by omega)]
theorem chk_short {m : Nat} (hm : m ≤ 32) (h : 8 * s.size - a < m) : chk s a (m : Int) = 2 := by
  unfold chk
  have : cnt (m : Int) = true := by simp [cnt]; omega
  rw [if_pos this, if_pos (by omega)]
theorem Bits_has {z : Int} {m : Nat} (hz : z = (m : Int)) (hm : m ≤ 32) (h : rd w g s a) (hs : s.size ≤ 281474976710656) (ha : a + m ≤ 8 * s.size) :
    Calls Tryz.prog 146 #[.pointer (some ⟨g, 0, none⟩), .int .i64 z] w fun e w' => e = .returned (.tuple #[.int .i64 (peekN (num s.data.toList) a m : Nat), .int .i64 0]) ∧ rd w' g s (a + m) ∧ Only (At g) w w' := by
  subst hz
  have hc := chk_has hm ha
  have hcn : cnt (m : Int) = true := by simp [cnt]; omega
  refine (Bits_any (m : Int) h hs (by omega)).mono ?_
  rintro e w' ⟨rfl, r1, o1⟩
  have e1 : bitsV s a (m : Int) = (peekN (num s.data.toList) a m : Nat) := by unfold bitsV peekR; rw [if_pos hc, if_pos hcn, Int.toNat_natCast]
  have e2 : moved s a (m : Int) = a + m := by unfold moved; rw [if_pos hc]; rfl
  rw [e2] at r1
  exact ⟨by rw [e1, hc], r1, o1⟩
theorem Bits_short {z : Int} {m : Nat} (hz : z = (m : Int)) (hm : m ≤ 32) (h : rd w g s a) (hs : s.size ≤ 281474976710656) (ha : a ≤ 8 * s.size) (hl : 8 * s.size - a < m) :
    Calls Tryz.prog 146 #[.pointer (some ⟨g, 0, none⟩), .int .i64 z] w fun e w' => e = .returned (.tuple #[.int .i64 0, .int .i64 2]) ∧ rd w' g s a ∧ Only (At g) w w' := by
  subst hz
  have hc := chk_short (a := a) hm hl
  refine (Bits_any (m : Int) h hs ha).mono ?_
  rintro e w' ⟨rfl, r1, o1⟩
  have e1 : bitsV s a (m : Int) = 0 := by unfold bitsV; rw [if_neg (by rw [hc]; decide)]
  have e2 : moved s a (m : Int) = a := by unfold moved; rw [if_neg (by rw [hc]; decide)]
  rw [e2] at r1
  exact ⟨by rw [e1, hc], r1, o1⟩
end

theorem xor16 {x : Nat} (h : x < 65536) : bits .xor .i64 (x : Int) 65535 = ((65535 - x : Nat) : Int) := by
  have h0 : x ^^^ 65535 = 65535 - x := by
    have h1 := congrArg BitVec.toNat (BitVec.xor_allOnes (x := BitVec.ofNat 16 x))
    rw [BitVec.toNat_xor, BitVec.toNat_not, BitVec.toNat_ofNat, BitVec.toNat_allOnes, Nat.mod_eq_of_lt h] at h1
    exact h1
  unfold bits
  have e : (BitVec.ofInt 64 (x : Int) ^^^ BitVec.ofInt 64 ((65535 : Nat) : Int)).toNat = 65535 - x := by
    rw [BitVec.toNat_xor, ofInt_u64 x (by omega), ofInt_u64 65535 (by omega), h0]
  show IntKind.i64.wrap _ = _
  rw [IntWalk.i64_left]
  have h4 : wrap64 ((65535 - x : Nat) : Int) = ((65535 - x : Nat) : Int) := wrap64_in (by omega) (by omega)
  rw [← h4]
  exact congrArg (fun n : Nat => wrap64 (n : Int)) e
theorem peek_lo (N a : Nat) : peekN N a 32 % 65536 = peekN N a 16 := by
  have h := peekN_add N a 16 16
  have h1 := peekN_lt N a 16
  rw [show (16 + 16 : Nat) = 32 from rfl] at h
  omega
theorem peek_hi (N a : Nat) : peekN N a 32 / 65536 = peekN N (a + 16) 16 := by
  have h := peekN_add N a 16 16
  have h1 := peekN_lt N a 16
  rw [show (16 + 16 : Nat) = 32 from rfl] at h
  omega

set_option maxRecDepth 100000 in
theorem readSize_any {w : World} {g : Nat} {s : ByteArray} {a : Nat} (h : rd w g s a) (hs : s.size ≤ 281474976710656) (ha : a ≤ 8 * s.size) :
    Calls Tryz.prog 147 #[.pointer (some ⟨g, 0, none⟩)] w fun e w' => e = .returned (.tuple #[.int .i64 ((stoM (num s.data.toList) (8 * s.size) a).2.1 : Nat), .int .i64 (stoM (num s.data.toList) (8 * s.size) a).1])
      ∧ ((stoM (num s.data.toList) (8 * s.size) a).1 = 0 → rd w' g s (stoM (num s.data.toList) (8 * s.size) a).2.2) ∧ Only (At g) w w' := by
  have HA := Lib.hid (Align_any h hs ha)
  obtain ⟨b, hb⟩ : ∃ b, b = (a + 7) / 8 * 8 := ⟨_, rfl⟩
  have hbM : b ≤ 8 * s.size := by omega
  by_cases hl : 8 * s.size - b < 32
  · have HS := Lib.hid (show stoM (num s.data.toList) (8 * s.size) a = (2, 0, 0) by unfold stoM; rw [← hb, if_pos hl])
    rw [← hb] at HA
    go_enter Tryz.func147, Tryz.ntmps147
    go_wp2_with fail
    refine HA.out.mono ?_
    rintro e w1 ⟨rfl, r1, o1⟩
    go_wp2_with fail
    refine (Bits_short (m := 32) rfl (by omega) r1 hs hbM hl).mono ?_
    rintro e w2 ⟨rfl, r2, o2⟩
    go_wp2
    go_ret2
    exact ⟨ret_int2 (by rw [HS.out]; rfl) (by rw [HS.out]), fun e => (by rw [HS.out] at e; cases e), o1.trans o2⟩
  · obtain ⟨x, hx⟩ : ∃ x, x = peekN (num s.data.toList) b 16 := ⟨_, rfl⟩
    obtain ⟨y, hy⟩ : ∃ y, y = peekN (num s.data.toList) (b + 16) 16 := ⟨_, rfl⟩
    obtain ⟨v, hv⟩ : ∃ v, v = peekN (num s.data.toList) b 32 := ⟨_, rfl⟩
    have hx16 : x < 65536 := by rw [hx]; exact peekN_lt _ _ _
    have hy16 : y < 65536 := by rw [hy]; exact peekN_lt _ _ _
    have e1 : v % 65536 = x := by rw [hv, hx]; exact peek_lo _ _
    have e2 : v / 65536 = y := by rw [hv, hy]; exact peek_hi _ _
    have e1' : (v : Int) % 65536 = (x : Int) := by omega
    have e2' : (v : Int) / 65536 = (y : Int) := by omega
    have hxor := xor16 hx16
    have HV := Lib.hid hv
    have HX := Lib.hid hx
    have HY := Lib.hid hy
    rw [← hb] at HA
    have HB := Lib.hid hb
    clear e1 e2 hv hx hy hb
    by_cases hxy : x + y = 65535
    · have HS := Lib.hid (show stoM (num s.data.toList) (8 * s.size) a = (0, x, b + 32) by unfold stoM; rw [← HB.out, if_neg hl, ← HX.out, ← HY.out, if_neg (by omega)])
      have hne : ((y : Int) != ((65535 - x : Nat) : Int)) = false := by simp; omega
      go_enter Tryz.func147, Tryz.ntmps147
      go_wp2_with fail
      refine HA.out.mono ?_
      rintro e w1 ⟨rfl, r1, o1⟩
      go_wp2_with fail
      refine (Bits_has (m := 32) rfl (by omega) r1 hs (by omega)).mono ?_
      rintro e w2 ⟨rfl, r2, o2⟩
      rw [← HV.out]
      go_wp2
      go_ret2
      exact ⟨ret_int2 (by rw [HS.out]; exact e1') (by rw [HS.out]), fun _ => (by rw [HS.out]; exact r2), o1.trans o2⟩
    · have HS := Lib.hid (show stoM (num s.data.toList) (8 * s.size) a = (6, 0, 0) by unfold stoM; rw [← HB.out, if_neg hl, ← HX.out, ← HY.out, if_pos (by omega)])
      have hne : ((y : Int) != ((65535 - x : Nat) : Int)) = true := by simp; omega
      go_enter Tryz.func147, Tryz.ntmps147
      go_wp2_with fail
      refine HA.out.mono ?_
      rintro e w1 ⟨rfl, r1, o1⟩
      go_wp2_with fail
      refine (Bits_has (m := 32) rfl (by omega) r1 hs (by omega)).mono ?_
      rintro e w2 ⟨rfl, r2, o2⟩
      rw [← HV.out]
      go_wp2
      go_ret2
      exact ⟨ret_int2 (by rw [HS.out]; rfl) (by rw [HS.out]), fun e => (by rw [HS.out] at e; cases e), o1.trans o2⟩

theorem bit_any (b : Bool) (w : World) : Calls Tryz.prog 115 #[.bool b] w fun e w' => e = .returned (.int .i64 (b.toNat : Nat)) ∧ w = w' := by
  cases b
  all_goals
    go_enter Tryz.func115, Tryz.ntmps115
    go_wp2
    go_ret
    exact ⟨rfl, rfl⟩

/-- The reader goes to a later place. -/
theorem Skip_has {w : World} {g : Nat} {s : ByteArray} {a : Nat} {z : Int} {m : Nat} (hz : z = (m : Int)) (hm : m ≤ 32) (h : rd w g s a) (hs : s.size ≤ 281474976710656) (ha : a + m ≤ 8 * s.size) :
    Calls Tryz.prog 149 #[.pointer (some ⟨g, 0, none⟩), .int .i64 z] w fun e w' => e = .returned (.int .i64 0) ∧ rd w' g s (a + m) ∧ Only (At g) w w' := by
  subst hz
  have hc := chk_has hm ha
  refine (Skip_any (m : Int) h hs (by omega)).mono ?_
  rintro e w' ⟨rfl, r1, o1⟩
  have e2 : moved s a (m : Int) = a + m := by unfold moved; rw [if_pos hc]; rfl
  rw [e2] at r1
  exact ⟨by rw [hc], r1, o1⟩

set_option maxRecDepth 100000 in
theorem advance_any {w : World} {g : Nat} {s : ByteArray} {a b : Nat} (h : rd w g s a) (hs : s.size ≤ 281474976710656) (hab : a ≤ b) (hb : b ≤ 8 * s.size) :
    Calls Tryz.prog 126 #[.pointer (some ⟨g, 0, none⟩), .int .i64 (b : Int)] w fun e w' => e = .returned (.tuple #[]) ∧ rd w' g s b ∧ Only (At g) w w' := by
  have HR := Lib.hid h
  obtain ⟨M, hM⟩ : ∃ M, M = 8 * s.size := ⟨_, rfl⟩
  have HM := Lib.hid hM
  have hM48 : M ≤ 2251799813685248 := by omega
  have hbM : b ≤ M := by omega
  have HS := Lib.hid hs
  clear h hM hb hs
  go_enter Tryz.func126, Tryz.ntmps126
  go_wp2_with fail
  refine (At_any HR.out).mono ?_
  rintro e w1 ⟨rfl, hw⟩
  rw [hw]
  go_wp2_with fail
  go_loopw [4] (fun s4 wr => ∃ (x : Int) (c : Nat), s4 = .int .i64 x ∧ x ≤ (b : Int) - (c : Int) ∧ a ≤ c ∧ c ≤ b ∧ ((0 < x ∧ x = (b : Int) - (c : Int)) ∨ (x ≤ 0 ∧ -32 ≤ x ∧ c = b)) ∧ Hid (rd wr g s c) ∧ Hid (Only (At g) w wr)) (fun s4 _ => (intOf s4).toNat)
  case atStart =>
    refine ⟨(b : Int) - (a : Int), a, by go_num, by omega, by omega, hab, ?_, HR, Lib.hid (Only.refl _ _)⟩
    rcases Nat.lt_or_ge a b with h | h
    · exact .inl ⟨by omega, by omega⟩
    · exact .inr ⟨by omega, by omega, by omega⟩
  case round =>
    obtain ⟨x, c, rfl, hx1, hac, hcb, hx2, HC, HO⟩ := hrel
    by_cases hx0 : 0 < x
    · obtain ⟨m, hm⟩ : ∃ m : Nat, (m : Int) = min x 32 := ⟨(min x 32).toNat, by omega⟩
      have hm1 : 1 ≤ m := by omega
      have hm2 : m ≤ 32 := by omega
      have hm3 : c + m ≤ b := by omega
      have hm4 : x ≤ 32 → (m : Int) = x := by omega
      have hm5 : 32 < x → m = 32 := by omega
      have HMM := Lib.hid hm
      have H4 := Lib.hid hm4
      have H5 := Lib.hid hm5
      have hx3 : x ≤ 2251799813685248 := by omega
      have HX2 := Lib.hid hx2
      clear hm hm4 hm5 hx2
      go_wp2_with fail
      all_goals
        refine (Skip_has (m := m) (by have := HMM.out; omega) hm2 HC.out HS.out (by have := HM.out; omega)).mono ?_
        rintro e w2 ⟨rfl, r2, o2⟩
        have R2 := Lib.hid r2
        have O2 := Lib.hid o2
        clear r2 o2
        go_wp2
        go_roundw
        case rel =>
          have e4 := H4.out
          have e5 := H5.out
          have e2 := HX2.out
          refine ⟨x - 32, c + m, by go_num, by omega, by omega, hm3, by omega, R2, Lib.hid (HO.out.trans O2.out)⟩
        case measure => simp [intOf]; omega
    · go_wp2
      go_end0
      have hcb2 : c = b := by omega
      rw [hcb2] at HC
      exact ⟨rfl, HC.out, HO.out⟩
end Go.Proofs.YtnkninjdpgpkmaaGreatDoor.Kc
namespace Go.Proofs.YtnkninjdpgpkmaaGreatDoor.Ku
open Go.RowKit Go.Proofs.YtnkninjdpgpkmaaGreatDoor.Vm Go.Proofs.YtnkninjdpgpkmaaGreatDoor.Vo Go.Proofs.YtnkninjdpgpkmaaGreatDoor.Bw Go.Proofs.YtnkninjdpgpkmaaGreatDoor.Na Go.Proofs.YtnkninjdpgpkmaaGreatDoor.Nm Go.Proofs.YtnkninjdpgpkmaaGreatDoor.Nh Go.Proofs.YtnkninjdpgpkmaaGreatDoor.Km Go.Proofs.YtnkninjdpgpkmaaGreatDoor.Ks

set_option maxRecDepth 100000 in
theorem unfit_any {w : World} {A1 A2 : Option Addr} {n1 c1 n2 c2 : Nat} {f1 f2 : Nat → Int} (h1 : 257 ≤ n1) (hn1 : n1 ≤ 9223372036854775807) (hn2 : n2 ≤ 9223372036854775807) (R1 : Hid (row w A1 n1 f1)) (R2 : Hid (row w A2 n2 f2)) :
    Calls Tryz.prog 140 #[.slice A1 n1 c1, .slice A2 n2 c2] w fun e w' => e = .returned (.int .i64 (fitsI n1 f1 n2 f2)) ∧ Below w.heap.size w w' := by
  obtain ⟨b, off, hA, _, hc⟩ := R1.out 256 (by omega)
  subst hA
  by_cases h0 : f1 256 = 0
  · have HS := Lib.hid (show fitsI n1 f1 n2 f2 = 21 by unfold fitsI; rw [if_pos h0])
    rw [h0] at hc
    clear h0
    go_enter Tryz.func140, Tryz.ntmps140
    go_wp2
    go_ret
    exact ⟨ret_i64 HS.out.symm, Below.refl _ _⟩
  · obtain ⟨x, hx⟩ : ∃ x, x = f1 256 := ⟨_, rfl⟩
    rw [← hx] at hc
    have hx0 : (x == 0) = false := by rw [hx]; simpa using h0
    have HF1 := Lib.hid (Fits_any (cap := c1) true hn1 R1)
    obtain ⟨y, hy⟩ : ∃ y, y = fit n1 f1 true := ⟨_, rfl⟩
    rw [← hy] at HF1
    by_cases hf : y = 0
    · have HS := Lib.hid (show fitsI n1 f1 n2 f2 = fit n2 f2 true by unfold fitsI; rw [if_neg h0, if_neg (by rw [← hy]; omega)])
      subst hf
      clear hy hx h0
      go_enter Tryz.func140, Tryz.ntmps140
      go_wp2_with fail
      refine HF1.out.mono ?_
      rintro e w1 ⟨rfl, b1⟩
      have B1 := Lib.hid b1
      clear b1
      go_wp2_with fail
      refine (Fits_any (cap := c2) true hn2 (Lib.hid (R2.out.below B1.out))).mono ?_
      rintro e w2 ⟨rfl, b2⟩
      have B2 := Lib.hid b2
      clear b2
      go_wp2
      go_ret
      exact ⟨ret_i64 HS.out.symm, grows B1.out B2.out⟩
    · have HS := Lib.hid (show fitsI n1 f1 n2 f2 = y by unfold fitsI; rw [if_neg h0, if_pos (by rw [← hy]; exact hf), hy])
      have hne : (y != 0) = true := by simpa using hf
      clear hy hx h0 hf
      go_enter Tryz.func140, Tryz.ntmps140
      go_wp2_with fail
      refine HF1.out.mono ?_
      rintro e w1 ⟨rfl, b1⟩
      have B1 := Lib.hid b1
      clear b1
      go_wp2
      go_ret
      exact ⟨ret_i64 HS.out.symm, B1.out⟩
end Go.Proofs.YtnkninjdpgpkmaaGreatDoor.Ku
namespace Go.Proofs.YtnkninjdpgpkmaaGreatDoor.Kd
open Go.RowKit Go.Proofs.YtnkninjdpgpkmaaGreatDoor.Bw Go.Proofs.YtnkninjdpgpkmaaGreatDoor.Na Go.Proofs.YtnkninjdpgpkmaaGreatDoor.Nm Go.Proofs.YtnkninjdpgpkmaaGreatDoor.Ko Go.Proofs.YtnkninjdpgpkmaaGreatDoor.Nf Go.Proofs.YtnkninjdpgpkmaaGreatDoor.Ka Go.Proofs.YtnkninjdpgpkmaaGreatDoor.Kb Go.Proofs.YtnkninjdpgpkmaaGreatDoor.Km

/-- Natural numbers as ints. -/
def ofN (l : List Nat) : List Int := l.map (fun x : Nat => (x : Int))
theorem ofN_length (l : List Nat) : (ofN l).length = l.length := by simp [ofN]
theorem ofN_at (l : List Nat) (i : Nat) : at' (ofN l) i = ix l i := by
  unfold at' ofN ix nth
  rw [List.getD_eq_getElem?_getD, List.getD_eq_getElem?_getD, List.getElem?_map]
  cases l[i]? <;> simp
theorem ofN_append (a b : List Nat) : ofN (a ++ b) = ofN a ++ ofN b := by simp [ofN]
theorem ofN_rep (n x : Nat) : ofN (List.replicate n x) = List.replicate n (x : Int) := by simp [ofN]
theorem ints_lower {w : World} {b b' : Nat} {e : TypeId} {v : Value} {l : List Int} (h : ints w b e v l) (hb : b' ≤ b) : ints w b' e v l := by
  refine ⟨h.1, ?_⟩
  rcases h.2 with h0 | ⟨g, cap, cur, e1, e2, e3⟩
  · exact .inl h0
  · exact .inr ⟨g, cap, cur, e1, Nat.le_trans hb e2, e3⟩
/-- A list in memory that reads as l, in a block of ints. -/
def lst (w : World) (v : Value) (l : List Nat) : Prop := ints w 0 3 v (ofN l)
theorem lst_of {w : World} {base : Nat} {v : Value} {l : List Nat} (h : ints w base 3 v (ofN l)) : lst w v l := ints_lower h (Nat.zero_le _)
theorem lst.below {w w' : World} {v : Value} {l : List Nat} (h : lst w v l) (k : Below w.heap.size w w') : lst w' v l := ints.below h k
theorem lst_nil (w : World) : lst w (.slice none 0 0) [] := ints_nil w 0 _
theorem lst.row {w : World} {A : Option Addr} {n c : Nat} {l : List Nat} (h : lst w (.slice A n c) l) : n = l.length ∧ row w A n (ix l) := by
  obtain ⟨A', c', e⟩ := ints.form h
  injection e with _ e _
  rw [ofN_length] at e
  have hr := ints.row h
  rw [ofN_length, ← e] at hr
  exact ⟨e, hr.congr (fun i _ => ofN_at l i)⟩
/-- It stays where only blocks of other types have changed. -/
theorem lst.off {w w' : World} {S : Nat → Prop} {v : Value} {l : List Nat} (h : lst w v l) (k : Only S w w') (hS : ∀ i, S i → ∃ t cs, Blk w i t cs ∧ t ≠ 3) : lst w' v l :=
  ints.only h k (fun i hi hs => by
    obtain ⟨t, cs, hb, ht⟩ := hS i hs
    exact own_apart h hb (fun e => ht e.symm) i hi rfl)

def S4 (a b c d : Nat) : Nat → Option Addr | 0 => some ⟨a, 0, none⟩ | 1 => some ⟨b, 0, none⟩ | 2 => some ⟨c, 0, none⟩ | _ => some ⟨d, 0, none⟩
def N4 : Nat → Nat | 0 => 144 | 1 => 112 | 2 => 24 | _ => 8
def F4 : Nat → Nat → Int | 0 => fun _ => 8 | 1 => fun _ => 9 | 2 => fun _ => 7 | _ => fun _ => 8
theorem cat4 : cat N4 F4 4 = ofN fixL := by
  show ((([] ++ upto 144 (fun _ => (8 : Int))) ++ upto 112 (fun _ => (9 : Int))) ++ upto 24 (fun _ => (7 : Int))) ++ upto 8 (fun _ => (8 : Int)) = _
  rw [upto_const, upto_const, upto_const, upto_const]
  unfold fixL
  rw [ofN_append, ofN_append, ofN_append, ofN_rep, ofN_rep, ofN_rep, ofN_rep, List.nil_append]
  rfl

set_option maxRecDepth 100000 in
theorem FixedLits_any (w : World) : Calls Tryz.prog 47 #[] w fun e w' => ∃ v, e = .returned v ∧ ints w' w.heap.size 3 v (ofN fixL) ∧ Below w.heap.size w w' := by
  go_enter Tryz.func47, Tryz.ntmps47
  go_wp2_with fail
  refine (equal_any 8 (n := 144) 144 rfl (by omega) (by omega) w).mono ?_
  rintro e w1 ⟨g1, rfl, k1, p1, b1⟩
  have K1 := Lib.hid k1; have B1 := Lib.hid b1; clear k1 b1
  go_wp2_with fail
  refine (equal_any 9 (n := 112) 112 rfl (by omega) (by omega) w1).mono ?_
  rintro e w2 ⟨g2, rfl, k2, p2, b2⟩
  have K2 := Lib.hid k2; have B2 := Lib.hid b2; clear k2 b2
  go_wp2_with fail
  refine (equal_any 7 (n := 24) 24 rfl (by omega) (by omega) w2).mono ?_
  rintro e w3 ⟨g3, rfl, k3, p3, b3⟩
  have K3 := Lib.hid k3; have B3 := Lib.hid b3; clear k3 b3
  go_wp2_with fail
  refine (equal_any 8 (n := 8) 8 rfl (by omega) (by omega) w3).mono ?_
  rintro e w4 ⟨g4, rfl, k4, p4, b4⟩
  have K4 := Lib.hid k4; have B4 := Lib.hid b4; clear k4 b4
  go_wp2_with fail
  obtain ⟨w5, hw5⟩ : ∃ w5, w5 = w4.alloc (.cells #[.slice (some ⟨g1, 0, none⟩) 144 144, .slice (some ⟨g2, 0, none⟩) 112 112, .slice (some ⟨g3, 0, none⟩) 24 24, .slice (some ⟨g4, 0, none⟩) 8 8] 22) := ⟨_, rfl⟩
  have B5 : Hid (Below w4.heap.size w4 w5) := Lib.hid (by rw [hw5]; exact below_alloc _ _)
  have HC : Hid (lists w5 w4.heap.size 4 (S4 g1 g2 g3 g4) N4 N4 F4) := Lib.hid ⟨by rw [hw5, size_alloc]; omega, fun i hi => by
    have kb : Blk w5 w4.heap.size 22 #[.slice (some ⟨g1, 0, none⟩) 144 144, .slice (some ⟨g2, 0, none⟩) 112 112, .slice (some ⟨g3, 0, none⟩) 24 24, .slice (some ⟨g4, 0, none⟩) 8 8] := by rw [hw5]; exact Blk.fresh _ _ _
    rw [kb.cell]
    rcases (show i = 0 ∨ i = 1 ∨ i = 2 ∨ i = 3 by omega) with rfl | rfl | rfl | rfl
    · exact ⟨rfl, row_of_blk ((((K1.out.below B2.out).below B3.out).below B4.out).below B5.out)⟩
    · exact ⟨rfl, row_of_blk (((K2.out.below B3.out).below B4.out).below B5.out)⟩
    · exact ⟨rfl, row_of_blk ((K3.out.below B4.out).below B5.out)⟩
    · exact ⟨rfl, row_of_blk (K4.out.below B5.out)⟩⟩
  rw [← hw5]
  have HB : Hid (Below w.heap.size w w5) := Lib.hid (grows (grows (grows (grows B1.out B2.out) B3.out) B4.out) B5.out)
  have HL : Hid ((cat N4 F4 4).length = 288) := Lib.hid (by rw [cat4, ofN_length, fixL_length])
  clear hw5
  refine (Concat_any (k := 4) (by omega) (by rw [HL.out]; omega) (by rw [HL.out]; omega) HC).mono ?_
  rintro e w6 ⟨v, rfl, k6, b6⟩
  have K6 := Lib.hid k6; have B6 := Lib.hid b6; clear k6 b6
  obtain ⟨A6, c6, hv⟩ := K6.out.form
  rw [HL.out] at hv
  subst hv
  go_wp2
  go_ret
  refine ⟨_, rfl, ?_, grows HB.out B6.out⟩
  have := K6.out
  rw [cat4] at this
  exact ints_lower this HB.out.size

theorem FixedDists_any (w : World) : Calls Tryz.prog 48 #[] w fun e w' => ∃ v, e = .returned v ∧ ints w' w.heap.size 3 v (ofN fixD) ∧ Below w.heap.size w w' := by
  go_enter Tryz.func48, Tryz.ntmps48
  go_wp2_with fail
  refine (equal_any 5 (n := 32) 32 rfl (by omega) (by omega) w).mono ?_
  rintro e w1 ⟨g1, rfl, k1, p1, b1⟩
  have K1 := Lib.hid k1; have B1 := Lib.hid b1; clear k1 b1
  go_wp2
  go_ret
  refine ⟨_, rfl, ?_, B1.out⟩
  have := ints_of_blk K1.out p1 (by omega)
  rw [upto_const] at this
  unfold fixD
  rw [ofN_rep]
  exact this
end Go.Proofs.YtnkninjdpgpkmaaGreatDoor.Kd
namespace Go.Proofs.YtnkninjdpgpkmaaGreatDoor.Ke
open Go.RowKit Go.Proofs.YtnkninjdpgpkmaaGreatDoor.Vm Go.Proofs.YtnkninjdpgpkmaaGreatDoor.Vo Go.Proofs.YtnkninjdpgpkmaaGreatDoor.Bw Go.Proofs.YtnkninjdpgpkmaaGreatDoor.Bm Go.Proofs.YtnkninjdpgpkmaaGreatDoor.Br Go.Proofs.YtnkninjdpgpkmaaGreatDoor.Bs Go.Proofs.YtnkninjdpgpkmaaGreatDoor.Na Go.Proofs.YtnkninjdpgpkmaaGreatDoor.Nm Go.Proofs.YtnkninjdpgpkmaaGreatDoor.Ko Go.Proofs.YtnkninjdpgpkmaaGreatDoor.Nf Go.Proofs.YtnkninjdpgpkmaaGreatDoor.Ka Go.Proofs.YtnkninjdpgpkmaaGreatDoor.Kb Go.Proofs.YtnkninjdpgpkmaaGreatDoor.Km Go.Proofs.YtnkninjdpgpkmaaGreatDoor.Kc Go.Proofs.YtnkninjdpgpkmaaGreatDoor.Kd

/-- A head as a value. -/
abbrev hv (b : Bool) (k z : Int) (v1 v2 : Value) : Value := .agg #[.bool b, .int .i64 k, .int .i64 z, v1, v2]
/-- A head in memory. -/
def isH (w : World) (v : Value) (h : Hd) : Prop := ∃ v1 v2, v = hv h.fin h.kind h.size v1 v2 ∧ lst w v1 h.lits ∧ lst w v2 h.dists
theorem isH.below {w w' : World} {v : Value} {h : Hd} (k : isH w v h) (b : Below w.heap.size w w') : isH w' v h := by
  obtain ⟨v1, v2, e, l1, l2⟩ := k
  exact ⟨v1, v2, e, l1.below b, l2.below b⟩
theorem isH.off {w w' : World} {S : Nat → Prop} {v : Value} {h : Hd} (k : isH w v h) (o : Only S w w') (hS : ∀ i, S i → ∃ t cs, Blk w i t cs ∧ t ≠ 3) : isH w' v h := by
  obtain ⟨v1, v2, e, l1, l2⟩ := k
  exact ⟨v1, v2, e, l1.off o hS, l2.off o hS⟩
/-- What readHead answers: what is wrong, and, if nothing is, the head, with the reader behind it. -/
def rdH (g : Nat) (s : ByteArray) (a : Nat) (w : World) (e : Ending) (w' : World) : Prop :=
  ∃ b k z A1 n1 c1 A2 n2 c2, e = .returned (.tuple #[hv b k z (.slice A1 n1 c1) (.slice A2 n2 c2), .int .i64 (headM (num s.data.toList) (8 * s.size) a).1]) ∧
    ((headM (num s.data.toList) (8 * s.size) a).1 = 0 → isH w' (hv b k z (.slice A1 n1 c1) (.slice A2 n2 c2)) (headM (num s.data.toList) (8 * s.size) a).2.1 ∧ rd w' g s (headM (num s.data.toList) (8 * s.size) a).2.2) ∧ Only (At g) w w'

/-- What readLengths answers. -/
def rdL (g : Nat) (s : ByteArray) (a : Nat) (w : World) (e : Ending) (w' : World) : Prop :=
  ∃ A1 n1 c1 A2 n2 c2, e = .returned (.tuple #[.slice A1 n1 c1, .slice A2 n2 c2, .int .i64 (dynM (num s.data.toList) (8 * s.size) a).1]) ∧
    ((dynM (num s.data.toList) (8 * s.size) a).1 = 0 → ints w' w.heap.size 3 (.slice A1 n1 c1) (ofN (dynM (num s.data.toList) (8 * s.size) a).2.1.1) ∧ ints w' w.heap.size 3 (.slice A2 n2 c2) (ofN (dynM (num s.data.toList) (8 * s.size) a).2.1.2) ∧ rd w' g s (dynM (num s.data.toList) (8 * s.size) a).2.2) ∧ Only (At g) w w'
/-- The zero head's cells. -/
abbrev z5 : Array Value := #[.bool false, .int .i64 0, .int .i64 0, .slice none 0 0, .slice none 0 0]
theorem one5 (b : Bool) (k z : Int) (A1 : Option Addr) (n1 c1 : Nat) (A2 : Option Addr) (n2 c2 : Nat) : (#[.bool b, .int .i64 k, .int .i64 z, .slice A1 n1 c1, .slice A2 n2 c2] : Array Value).all (·.oneCell') = true := by simp [Value.oneCell']
theorem sizeH : (Tryz.prog.info? 143).map (·.size) = some 5 := by kernel_rfl
theorem results_cell2 {P : Program} {fn : Func} {p u : Tmp} {ty : TypeId} (h : fn.results = #[.cell p ty, .tmp u]) (tmps : Array Value) (w : World) (g : Nat) (t : TypeId) (cs : Array Value) (d : TypeDesc) (x : Value)
    (hp : tmps.getD p undef = .pointer (some ⟨g, 0, none⟩)) (hx : tmps.getD u undef = x) (hg : Blk w g t cs) (hu : P.underlying ty = some d) (hd : (match d with | .struct _ | .array _ _ => true | _ => false) = true) (hi : (P.info? ty).map (·.size) = some cs.size) :
    (results fn tmps).run P w = .ok (.tuple #[.agg cs, x]) w := by
  rw [results_cell_tmp h, hp, hx]
  simp [asAddr, run_loadVar_row w g t ty cs (0, 0) d hg hu hd hi]

theorem only_row {S : Nat → Prop} {a b : World} (h : Only S a b) {g : Nat} (hg : S g) (cs : Array Value) : Only S a (b.setRow g cs) :=
  ⟨h.os, h.tape, h.output, by rw [setRow_size]; exact h.size, fun k hk hS => (setRow_other b g k cs (fun e => hS (by rw [e]; exact hg))).trans (h.block k hk hS)⟩
/-- Two blocks of heads alone. -/
def two (H R : Nat) (k : Nat) : Prop := k = H ∨ k = R
theorem only_two {H R : Nat} (w : World) (u v : Value) (cs : Array Value) (i j : Nat) : Only (two H R) w (((w.setCell ⟨H, i, none⟩ u).setCell ⟨H, j, none⟩ v).setRow R cs) :=
  only_row (((Only.refl _ w).store (p := ⟨H, i, none⟩) (.inl (.inl rfl)) _).store (p := ⟨H, j, none⟩) (.inl (.inl rfl)) _) (.inr rfl) cs
theorem only_setRow {S : Nat → Prop} {a b : World} (h : Only S a b) {g : Nat} (hg : a.heap.size ≤ g) (cs : Array Value) : Only S a (b.setRow g cs) :=
  ⟨h.os, h.tape, h.output, by rw [setRow_size]; exact h.size, fun k hk hS => (setRow_other b g k cs (by omega)).trans (h.block k hk hS)⟩

section
variable {w : World} {g : Nat} {s : ByteArray} {a : Nat}
set_option maxRecDepth 100000 in
theorem head_short' (h : rd w g s a) (hs : s.size ≤ 281474976710656) (ha : a ≤ 8 * s.size) (hl : 8 * s.size - a < 3) : Calls Tryz.prog 125 #[.pointer (some ⟨g, 0, none⟩)] w (rdH g s a w) := by
  have HS := Lib.hid (head_short (N := num s.data.toList) hl)
  have h1 := h.below (below_alloc w (.cells #[.bool false, .int .i64 0, .int .i64 0, .slice none 0 0, .slice none 0 0] 143))
  go_enter Tryz.func125, Tryz.ntmps125
  go_wp2_with fail
  refine (Bits_short (m := 3) rfl (by omega) h1 hs ha hl).mono ?_
  rintro e w2 ⟨rfl, r2, o2⟩
  have hg := h.lt
  have HR : Hid (Blk w2 w.heap.size 143 z5) := Lib.hid (Blk.only (Blk.fresh w _ _) o2 (fun e => by have : w.heap.size = g := e; omega))
  go_wp2_with (refine wpList_store_row rfl 143 _ _ rfl w.heap.size z5 rfl rfl _ _ HR.out sizeH rfl (one5 _ _ _ _ _ _ _ _ _) ?_)
  refine bodyPost_ret (v := .tuple #[.agg z5, .int .i64 2]) (results_cell2 rfl _ _ w.heap.size 143 z5 _ _ rfl rfl (setRow_heap _ _ _ _ _ _ HR.out) Tryz.underlying143 rfl sizeH) rfl ?_
  have HO : Only (At g) w w2 := Only.then (Only.of_below (below_alloc w _)) o2 (fun i hi _ => hi)
  refine ⟨false, 0, 0, none, 0, 0, none, 0, 0, by rw [HS.out], fun e => (by rw [HS.out] at e; cases e), ?_⟩
  exact only_setRow HO (Nat.le_refl _) _

set_option maxRecDepth 100000 in
theorem head_fix' (h : rd w g s a) (hs : s.size ≤ 281474976710656) (ha : a ≤ 8 * s.size) (hl : ¬ 8 * s.size - a < 3) (hk : peekN (num s.data.toList) (a + 1) 2 = 1) : Calls Tryz.prog 125 #[.pointer (some ⟨g, 0, none⟩)] w (rdH g s a w) := by
  have HS := Lib.hid (head_fix (N := num s.data.toList) hl hk)
  have h1 := h.below (below_alloc w (.cells #[.bool false, .int .i64 0, .int .i64 0, .slice none 0 0, .slice none 0 0] 143))
  obtain ⟨v, hv⟩ : ∃ v, v = peekN (num s.data.toList) a 3 := ⟨_, rfl⟩
  have hp := peekN_add (num s.data.toList) a 1 2
  have hp1 := peekN_lt (num s.data.toList) a 1
  rw [show 1 + 2 = 3 from rfl, ← hv, hk] at hp
  obtain ⟨fb, hfb⟩ : ∃ fb : Bool, fb = decide (peekN (num s.data.toList) a 1 = 1) := ⟨_, rfl⟩
  have e1 : ((v : Int) % 2 == 1) = fb := by rw [hfb, Bool.eq_iff_iff]; simp; omega
  have e2 : (v : Int) / 2 = 1 := by omega
  have HV := Lib.hid hv
  have HF := Lib.hid hfb
  clear hv hfb hp hp1 hk
  go_enter Tryz.func125, Tryz.ntmps125
  go_wp2_with fail
  refine (Bits_has (m := 3) rfl (by omega) h1 hs (by omega)).mono ?_
  rintro e w2 ⟨rfl, r2, o2⟩
  rw [← HV.out]
  have hg := h.lt
  obtain ⟨w3, hw3⟩ : ∃ w3, w3 = w2.alloc (.cells #[.bool fb, .int .i64 1, .int .i64 0, .slice none 0 0, .slice none 0 0] 143) := ⟨_, rfl⟩
  have HR : Hid (Blk w3 w.heap.size 143 z5) := Lib.hid (by rw [hw3]; exact (Blk.only (Blk.fresh w _ _) o2 (fun e => by have : w.heap.size = g := e; omega)).below (below_alloc _ _))
  have HH : Hid (Blk w3 w2.heap.size 143 #[.bool fb, .int .i64 1, .int .i64 0, .slice none 0 0, .slice none 0 0]) := Lib.hid (by rw [hw3]; exact Blk.fresh _ _ _)
  have HG : Hid (rd w3 g s (a + 3)) := Lib.hid (by rw [hw3]; exact r2.below (below_alloc _ _))
  have hs2 : w.heap.size + 1 ≤ w2.heap.size := by have := o2.size; rw [size_alloc] at this; exact this
  have HO : Hid (Only (At g) w w3) := Lib.hid (by rw [hw3]; exact (Only.then (Only.of_below (below_alloc w _)) o2 (fun i hi _ => hi)).alloc _)
  obtain ⟨H, hH⟩ : ∃ H, H = w2.heap.size := ⟨_, rfl⟩
  go_wp2_with fail
  rw [← hw3]
  rw [← hH] at HH
  refine (FixedLits_any w3).mono ?_
  rintro e w4 ⟨v1, rfl, k4, b4⟩
  have K4 := Lib.hid k4; have B4 := Lib.hid b4; clear k4 b4
  obtain ⟨A1, c1, hv1⟩ := K4.out.form
  rw [ofN_length, fixL_length] at hv1
  subst hv1
  go_wp2_with fail
  refine (FixedDists_any w4).mono ?_
  rintro e w5 ⟨v2, rfl, k5, b5⟩
  have K5 := Lib.hid k5; have B5 := Lib.hid b5; clear k5 b5
  obtain ⟨A2, c2, hv2⟩ := K5.out.form
  rw [ofN_length, fixD_length] at hv2
  subst hv2
  rw [← hH]
  have HH5 := Lib.hid ((HH.out.below B4.out).below B5.out)
  have HR5 := Lib.hid ((HR.out.below B4.out).below B5.out)
  have c3 := HH5.out.cell 3
  have c4 := HH5.out.cell 4
  have f3 := HH5.out.frozen 3
  have f4 := HH5.out.frozen 4
  have HL : Hid (Blk ((w5.setCell ⟨H, 3, none⟩ (.slice A1 288 c1)).setCell ⟨H, 4, none⟩ (.slice A2 32 c2)) H 143 #[.bool fb, .int .i64 1, .int .i64 0, .slice A1 288 c1, .slice A2 32 c2]) := Lib.hid ((HH5.out.store 3 _).store 4 _)
  have HR6 : Hid (Blk ((w5.setCell ⟨H, 3, none⟩ (.slice A1 288 c1)).setCell ⟨H, 4, none⟩ (.slice A2 32 c2)) w.heap.size 143 z5) := Lib.hid ((HR5.out.apartStore (by simp; omega)).apartStore (by simp; omega))
  have hHH := Lib.hid hH
  clear hH hw3
  go_wp2_with (first | (refine wpList_load_row rfl 143 _ rfl H rfl _ _ _ _ HL.out Tryz.underlying143 rfl sizeH ?_) | (refine wpList_store_row rfl 143 _ _ rfl w.heap.size #[.bool fb, .int .i64 1, .int .i64 0, .slice A1 288 c1, .slice A2 32 c2] rfl rfl _ _ HR6.out sizeH rfl (one5 _ _ _ _ _ _ _ _ _) ?_))
  refine bodyPost_ret (v := .tuple #[.agg #[.bool fb, .int .i64 1, .int .i64 0, .slice A1 288 c1, .slice A2 32 c2], .int .i64 0]) (results_cell2 rfl _ _ w.heap.size 143 _ _ _ rfl rfl (setRow_heap _ _ _ _ _ _ HR6.out) Tryz.underlying143 rfl sizeH) rfl ?_
  have O6 := only_two (H := H) (R := w.heap.size) w5 (.slice A1 288 c1) (.slice A2 32 c2) #[.bool fb, .int .i64 1, .int .i64 0, .slice A1 288 c1, .slice A2 32 c2] 3 4
  have hH' := hHH.out
  have h3s := HH.out.lt
  have hn : ∀ i, w3.heap.size ≤ i → ¬ two H w.heap.size i := fun i hi => by rintro (e | e) <;> omega
  have hgn : ¬ two H w.heap.size g := by rintro (e | e) <;> omega
  have L4 := K4.out.below B5.out
  refine ⟨fb, 1, 0, A1, 288, c1, A2, 32, c2, by rw [HS.out], fun _ => ?_, ?_⟩
  · rw [HS.out]
    refine ⟨⟨_, _, by rw [HF.out]; rfl, lst_of (L4.only O6 (fun i hi => hn i (L4.lo i hi).1)), lst_of (K5.out.only O6 (fun i hi => hn i (Nat.le_trans B4.out.size (K5.out.lo i hi).1)))⟩, ?_⟩
    exact ((HG.out.below B4.out).below B5.out).only O6 hgn
  · exact Only.then (Only.then (Only.then HO.out (Only.of_below B4.out) (fun i hi _ => hi)) (Only.of_below B5.out) (fun i hi _ => hi)) O6 (fun i hi hlt => by rcases hi with e | e <;> omega)

set_option maxRecDepth 100000 in
theorem head_sto' (h : rd w g s a) (hs : s.size ≤ 281474976710656) (ha : a ≤ 8 * s.size) (hl : ¬ 8 * s.size - a < 3) (hk : peekN (num s.data.toList) (a + 1) 2 = 0) : Calls Tryz.prog 125 #[.pointer (some ⟨g, 0, none⟩)] w (rdH g s a w) := by
  have HS := Lib.hid (show (headM (num s.data.toList) (8 * s.size) a).1 = (stoM (num s.data.toList) (8 * s.size) (a + 3)).1 ∧ ((stoM (num s.data.toList) (8 * s.size) (a + 3)).1 = 0 → headM (num s.data.toList) (8 * s.size) a = (0, ⟨decide (peekN (num s.data.toList) a 1 = 1), 0, (stoM (num s.data.toList) (8 * s.size) (a + 3)).2.1, [], []⟩, (stoM (num s.data.toList) (8 * s.size) (a + 3)).2.2)) from ⟨by
    by_cases e : (stoM (num s.data.toList) (8 * s.size) (a + 3)).1 = 0
    · rw [head_sto hl hk e, e]
    · rw [head_sto_no hl hk e], fun e => head_sto hl hk e⟩)
  have h1 := h.below (below_alloc w (.cells #[.bool false, .int .i64 0, .int .i64 0, .slice none 0 0, .slice none 0 0] 143))
  obtain ⟨v, hv⟩ : ∃ v, v = peekN (num s.data.toList) a 3 := ⟨_, rfl⟩
  have hp := peekN_add (num s.data.toList) a 1 2
  have hp1 := peekN_lt (num s.data.toList) a 1
  rw [show 1 + 2 = 3 from rfl, ← hv, hk] at hp
  obtain ⟨fb, hfb⟩ : ∃ fb : Bool, fb = decide (peekN (num s.data.toList) a 1 = 1) := ⟨_, rfl⟩
  have e1 : ((v : Int) % 2 == 1) = fb := by rw [hfb, Bool.eq_iff_iff]; simp; omega
  have e2 : (v : Int) / 2 = 0 := by omega
  have HV := Lib.hid hv
  have HF := Lib.hid hfb
  clear hv hfb hp hp1 hk
  go_enter Tryz.func125, Tryz.ntmps125
  go_wp2_with fail
  refine (Bits_has (m := 3) rfl (by omega) h1 hs (by omega)).mono ?_
  rintro e w2 ⟨rfl, r2, o2⟩
  rw [← HV.out]
  have hg := h.lt
  obtain ⟨w3, hw3⟩ : ∃ w3, w3 = w2.alloc (.cells #[.bool fb, .int .i64 0, .int .i64 0, .slice none 0 0, .slice none 0 0] 143) := ⟨_, rfl⟩
  have HR : Hid (Blk w3 w.heap.size 143 z5) := Lib.hid (by rw [hw3]; exact (Blk.only (Blk.fresh w _ _) o2 (fun e => by have : w.heap.size = g := e; omega)).below (below_alloc _ _))
  have HH : Hid (Blk w3 w2.heap.size 143 #[.bool fb, .int .i64 0, .int .i64 0, .slice none 0 0, .slice none 0 0]) := Lib.hid (by rw [hw3]; exact Blk.fresh _ _ _)
  have HG : Hid (rd w3 g s (a + 3)) := Lib.hid (by rw [hw3]; exact r2.below (below_alloc _ _))
  have hs2 : w.heap.size + 1 ≤ w2.heap.size := by have := o2.size; rw [size_alloc] at this; exact this
  have HO : Hid (Only (At g) w w3) := Lib.hid (by rw [hw3]; exact (Only.then (Only.of_below (below_alloc w _)) o2 (fun i hi _ => hi)).alloc _)
  obtain ⟨H, hH⟩ : ∃ H, H = w2.heap.size := ⟨_, rfl⟩
  go_wp2_with fail
  rw [← hw3]
  rw [← hH] at HH
  refine (readSize_any HG.out hs (by omega)).mono ?_
  rintro e w4 ⟨rfl, k4, b4⟩
  have K4 := Lib.hid k4; have B4 := Lib.hid b4; clear k4 b4
  obtain ⟨z, hz⟩ : ∃ z, z = (stoM (num s.data.toList) (8 * s.size) (a + 3)).2.1 := ⟨_, rfl⟩
  obtain ⟨er, her⟩ : ∃ er, er = (stoM (num s.data.toList) (8 * s.size) (a + 3)).1 := ⟨_, rfl⟩
  rw [← hz, ← her]
  have HZ := Lib.hid hz
  have HER := Lib.hid her
  rw [← hH]
  have h3s := HH.out.lt
  have HH5 : Hid (Blk w4 H 143 #[.bool fb, .int .i64 0, .int .i64 0, .slice none 0 0, .slice none 0 0]) := Lib.hid (HH.out.only B4.out (fun e => by have : H = g := e; omega))
  have HR5 : Hid (Blk w4 w.heap.size 143 z5) := Lib.hid (HR.out.only B4.out (fun e => by have : w.heap.size = g := e; omega))
  have c2 := HH5.out.cell 2
  have f2 := HH5.out.frozen 2
  have HL : Hid (Blk (w4.setCell ⟨H, 2, none⟩ (.int .i64 (z : Int))) H 143 #[.bool fb, .int .i64 0, .int .i64 (z : Int), .slice none 0 0, .slice none 0 0]) := Lib.hid (HH5.out.store 2 _)
  have HR6 : Hid (Blk (w4.setCell ⟨H, 2, none⟩ (.int .i64 (z : Int))) w.heap.size 143 z5) := Lib.hid (HR5.out.apartStore (by simp; omega))
  have hHH := Lib.hid hH
  clear hH hw3 her hz
  go_wp2_with (first | (refine wpList_load_row rfl 143 _ rfl H rfl _ _ _ _ HL.out Tryz.underlying143 rfl sizeH ?_) | (refine wpList_store_row rfl 143 _ _ rfl w.heap.size #[.bool fb, .int .i64 0, .int .i64 (z : Int), .slice none 0 0, .slice none 0 0] rfl rfl _ _ HR6.out sizeH rfl (one5 _ _ _ _ _ _ _ _ _) ?_))
  refine bodyPost_ret (v := .tuple #[.agg #[.bool fb, .int .i64 0, .int .i64 (z : Int), .slice none 0 0, .slice none 0 0], .int .i64 er]) (results_cell2 rfl _ _ w.heap.size 143 _ _ _ rfl rfl (setRow_heap _ _ _ _ _ _ HR6.out) Tryz.underlying143 rfl sizeH) rfl ?_
  have O6 : Only (two H w.heap.size) w4 ((w4.setCell ⟨H, 2, none⟩ (.int .i64 (z : Int))).setRow w.heap.size #[.bool fb, .int .i64 0, .int .i64 (z : Int), .slice none 0 0, .slice none 0 0]) := only_row ((Only.refl _ w4).store (p := ⟨H, 2, none⟩) (.inl (.inl rfl)) _) (.inr rfl) _
  have hH' := hHH.out
  have hgn : ¬ two H w.heap.size g := by rintro (e | e) <;> omega
  refine ⟨fb, 0, z, none, 0, 0, none, 0, 0, by rw [HS.out.1, HER.out], fun e0 => ?_, ?_⟩
  · rw [HS.out.1] at e0
    rw [HS.out.2 e0]
    refine ⟨⟨_, _, by rw [← HZ.out, HF.out]; rfl, lst_nil _, lst_nil _⟩, ?_⟩
    exact (K4.out e0).only O6 hgn
  · exact Only.then (Only.then HO.out B4.out (fun i hi _ => hi)) O6 (fun i hi hlt => by rcases hi with e | e <;> omega)

set_option maxRecDepth 100000 in
theorem head_no' (h : rd w g s a) (hs : s.size ≤ 281474976710656) (ha : a ≤ 8 * s.size) (hl : ¬ 8 * s.size - a < 3) (hk : peekN (num s.data.toList) (a + 1) 2 = 3) : Calls Tryz.prog 125 #[.pointer (some ⟨g, 0, none⟩)] w (rdH g s a w) := by
  have HS := Lib.hid (head_no (N := num s.data.toList) hl hk)
  have h1 := h.below (below_alloc w (.cells #[.bool false, .int .i64 0, .int .i64 0, .slice none 0 0, .slice none 0 0] 143))
  obtain ⟨v, hv⟩ : ∃ v, v = peekN (num s.data.toList) a 3 := ⟨_, rfl⟩
  have hp := peekN_add (num s.data.toList) a 1 2
  have hp1 := peekN_lt (num s.data.toList) a 1
  rw [show 1 + 2 = 3 from rfl, ← hv, hk] at hp
  obtain ⟨fb, hfb⟩ : ∃ fb : Bool, fb = decide (peekN (num s.data.toList) a 1 = 1) := ⟨_, rfl⟩
  have e1 : ((v : Int) % 2 == 1) = fb := by rw [hfb, Bool.eq_iff_iff]; simp; omega
  have e2 : (v : Int) / 2 = 3 := by omega
  have HV := Lib.hid hv
  have HF := Lib.hid hfb
  clear hv hfb hp hp1 hk
  go_enter Tryz.func125, Tryz.ntmps125
  go_wp2_with fail
  refine (Bits_has (m := 3) rfl (by omega) h1 hs (by omega)).mono ?_
  rintro e w2 ⟨rfl, r2, o2⟩
  rw [← HV.out]
  have hg := h.lt
  obtain ⟨w3, hw3⟩ : ∃ w3, w3 = w2.alloc (.cells #[.bool fb, .int .i64 3, .int .i64 0, .slice none 0 0, .slice none 0 0] 143) := ⟨_, rfl⟩
  have HR : Hid (Blk w3 w.heap.size 143 z5) := Lib.hid (by rw [hw3]; exact (Blk.only (Blk.fresh w _ _) o2 (fun e => by have : w.heap.size = g := e; omega)).below (below_alloc _ _))
  have HH : Hid (Blk w3 w2.heap.size 143 #[.bool fb, .int .i64 3, .int .i64 0, .slice none 0 0, .slice none 0 0]) := Lib.hid (by rw [hw3]; exact Blk.fresh _ _ _)
  have HG : Hid (rd w3 g s (a + 3)) := Lib.hid (by rw [hw3]; exact r2.below (below_alloc _ _))
  have hs2 : w.heap.size + 1 ≤ w2.heap.size := by have := o2.size; rw [size_alloc] at this; exact this
  have HO : Hid (Only (At g) w w3) := Lib.hid (by rw [hw3]; exact (Only.then (Only.of_below (below_alloc w _)) o2 (fun i hi _ => hi)).alloc _)
  obtain ⟨H, hH⟩ : ∃ H, H = w2.heap.size := ⟨_, rfl⟩
  clear hH
  subst hw3
  go_wp2_with (refine wpList_store_row rfl 143 _ _ rfl w.heap.size #[.bool fb, .int .i64 3, .int .i64 0, .slice none 0 0, .slice none 0 0] rfl rfl _ _ HR.out sizeH rfl (one5 _ _ _ _ _ _ _ _ _) ?_)
  refine bodyPost_ret (v := .tuple #[.agg #[.bool fb, .int .i64 3, .int .i64 0, .slice none 0 0, .slice none 0 0], .int .i64 11]) (results_cell2 rfl _ _ w.heap.size 143 _ _ _ rfl rfl (setRow_heap _ _ _ _ _ _ HR.out) Tryz.underlying143 rfl sizeH) rfl ?_
  refine ⟨fb, 3, 0, none, 0, 0, none, 0, 0, by rw [HS.out], fun e => (by rw [HS.out] at e; cases e), ?_⟩
  exact only_setRow HO.out (Nat.le_refl _) _

set_option maxRecDepth 100000 in
theorem head_dyn' (h : rd w g s a) (hs : s.size ≤ 281474976710656) (ha : a ≤ 8 * s.size) (hl : ¬ 8 * s.size - a < 3) (hk : peekN (num s.data.toList) (a + 1) 2 = 2) (HD : Hid (∀ u, rd u g s (a + 3) → Only (At g) w u → Calls Tryz.prog 148 #[.pointer (some ⟨g, 0, none⟩)] u (rdL g s (a + 3) u))) : Calls Tryz.prog 125 #[.pointer (some ⟨g, 0, none⟩)] w (rdH g s a w) := by
  have HS := Lib.hid (show (headM (num s.data.toList) (8 * s.size) a).1 = (dynM (num s.data.toList) (8 * s.size) (a + 3)).1 ∧ ((dynM (num s.data.toList) (8 * s.size) (a + 3)).1 = 0 → headM (num s.data.toList) (8 * s.size) a = (0, ⟨decide (peekN (num s.data.toList) a 1 = 1), 2, 0, (dynM (num s.data.toList) (8 * s.size) (a + 3)).2.1.1, (dynM (num s.data.toList) (8 * s.size) (a + 3)).2.1.2⟩, (dynM (num s.data.toList) (8 * s.size) (a + 3)).2.2)) from ⟨by
    by_cases e : (dynM (num s.data.toList) (8 * s.size) (a + 3)).1 = 0
    · rw [head_dyn hl hk e, e]
    · rw [head_dyn_no hl hk e], fun e => head_dyn hl hk e⟩)
  have h1 := h.below (below_alloc w (.cells #[.bool false, .int .i64 0, .int .i64 0, .slice none 0 0, .slice none 0 0] 143))
  obtain ⟨v, hv⟩ : ∃ v, v = peekN (num s.data.toList) a 3 := ⟨_, rfl⟩
  have hp := peekN_add (num s.data.toList) a 1 2
  have hp1 := peekN_lt (num s.data.toList) a 1
  rw [show 1 + 2 = 3 from rfl, ← hv, hk] at hp
  obtain ⟨fb, hfb⟩ : ∃ fb : Bool, fb = decide (peekN (num s.data.toList) a 1 = 1) := ⟨_, rfl⟩
  have e1 : ((v : Int) % 2 == 1) = fb := by rw [hfb, Bool.eq_iff_iff]; simp; omega
  have e2 : (v : Int) / 2 = 2 := by omega
  have HV := Lib.hid hv
  have HF := Lib.hid hfb
  clear hv hfb hp hp1 hk
  go_enter Tryz.func125, Tryz.ntmps125
  go_wp2_with fail
  refine (Bits_has (m := 3) rfl (by omega) h1 hs (by omega)).mono ?_
  rintro e w2 ⟨rfl, r2, o2⟩
  rw [← HV.out]
  have hg := h.lt
  obtain ⟨w3, hw3⟩ : ∃ w3, w3 = w2.alloc (.cells #[.bool fb, .int .i64 2, .int .i64 0, .slice none 0 0, .slice none 0 0] 143) := ⟨_, rfl⟩
  have HR : Hid (Blk w3 w.heap.size 143 z5) := Lib.hid (by rw [hw3]; exact (Blk.only (Blk.fresh w _ _) o2 (fun e => by have : w.heap.size = g := e; omega)).below (below_alloc _ _))
  have HH : Hid (Blk w3 w2.heap.size 143 #[.bool fb, .int .i64 2, .int .i64 0, .slice none 0 0, .slice none 0 0]) := Lib.hid (by rw [hw3]; exact Blk.fresh _ _ _)
  have HG : Hid (rd w3 g s (a + 3)) := Lib.hid (by rw [hw3]; exact r2.below (below_alloc _ _))
  have hs2 : w.heap.size + 1 ≤ w2.heap.size := by have := o2.size; rw [size_alloc] at this; exact this
  have HO : Hid (Only (At g) w w3) := Lib.hid (by rw [hw3]; exact (Only.then (Only.of_below (below_alloc w _)) o2 (fun i hi _ => hi)).alloc _)
  obtain ⟨H, hH⟩ : ∃ H, H = w2.heap.size := ⟨_, rfl⟩
  go_wp2_with fail
  rw [← hw3]
  rw [← hH] at HH
  refine (HD.out w3 HG.out HO.out).mono ?_
  rintro e w4 ⟨A1, n1, c1, A2, n2, c2, rfl, k4, b4⟩
  have K4 := Lib.hid k4; have B4 := Lib.hid b4; clear k4 b4
  obtain ⟨er, her⟩ : ∃ er, er = (dynM (num s.data.toList) (8 * s.size) (a + 3)).1 := ⟨_, rfl⟩
  rw [← her]
  have HER := Lib.hid her
  rw [← hH]
  have h3s := HH.out.lt
  have HH5 : Hid (Blk w4 H 143 #[.bool fb, .int .i64 2, .int .i64 0, .slice none 0 0, .slice none 0 0]) := Lib.hid (HH.out.only B4.out (fun e => by have : H = g := e; omega))
  have HR5 : Hid (Blk w4 w.heap.size 143 z5) := Lib.hid (HR.out.only B4.out (fun e => by have : w.heap.size = g := e; omega))
  have d3 := HH5.out.cell 3
  have d4 := HH5.out.cell 4
  have f3 := HH5.out.frozen 3
  have f4 := HH5.out.frozen 4
  have HL : Hid (Blk ((w4.setCell ⟨H, 3, none⟩ (.slice A1 n1 c1)).setCell ⟨H, 4, none⟩ (.slice A2 n2 c2)) H 143 #[.bool fb, .int .i64 2, .int .i64 0, .slice A1 n1 c1, .slice A2 n2 c2]) := Lib.hid ((HH5.out.store 3 _).store 4 _)
  have HR6 : Hid (Blk ((w4.setCell ⟨H, 3, none⟩ (.slice A1 n1 c1)).setCell ⟨H, 4, none⟩ (.slice A2 n2 c2)) w.heap.size 143 z5) := Lib.hid ((HR5.out.apartStore (by simp; omega)).apartStore (by simp; omega))
  have hHH := Lib.hid hH
  clear hH hw3 her
  go_wp2_with (first | (refine wpList_load_row rfl 143 _ rfl H rfl _ _ _ _ HL.out Tryz.underlying143 rfl sizeH ?_) | (refine wpList_store_row rfl 143 _ _ rfl w.heap.size #[.bool fb, .int .i64 2, .int .i64 0, .slice A1 n1 c1, .slice A2 n2 c2] rfl rfl _ _ HR6.out sizeH rfl (one5 _ _ _ _ _ _ _ _ _) ?_))
  refine bodyPost_ret (v := .tuple #[.agg #[.bool fb, .int .i64 2, .int .i64 0, .slice A1 n1 c1, .slice A2 n2 c2], .int .i64 er]) (results_cell2 rfl _ _ w.heap.size 143 _ _ _ rfl rfl (setRow_heap _ _ _ _ _ _ HR6.out) Tryz.underlying143 rfl sizeH) rfl ?_
  have O6 := only_two (H := H) (R := w.heap.size) w4 (.slice A1 n1 c1) (.slice A2 n2 c2) #[.bool fb, .int .i64 2, .int .i64 0, .slice A1 n1 c1, .slice A2 n2 c2] 3 4
  have hH' := hHH.out
  have hgn : ¬ two H w.heap.size g := by rintro (e | e) <;> omega
  have hn : ∀ i, w3.heap.size ≤ i → ¬ two H w.heap.size i := fun i hi => by rintro (e | e) <;> omega
  refine ⟨fb, 2, 0, A1, n1, c1, A2, n2, c2, by rw [HS.out.1, HER.out], fun e0 => ?_, ?_⟩
  · rw [HS.out.1] at e0
    rw [HS.out.2 e0]
    obtain ⟨l1, l2, r4⟩ := K4.out e0
    refine ⟨⟨_, _, by rw [HF.out]; rfl, lst_of (l1.only O6 (fun i hi => hn i (l1.lo i hi).1)), lst_of (l2.only O6 (fun i hi => hn i (l2.lo i hi).1))⟩, ?_⟩
    exact r4.only O6 hgn
  · exact Only.then (Only.then HO.out B4.out (fun i hi _ => hi)) O6 (fun i hi hlt => by rcases hi with e | e <;> omega)
end
end Go.Proofs.YtnkninjdpgpkmaaGreatDoor.Ke
namespace Go.Proofs.YtnkninjdpgpkmaaGreatDoor.Kf
open Go.RowKit Go.Proofs.YtnkninjdpgpkmaaGreatDoor.Vm Go.Proofs.YtnkninjdpgpkmaaGreatDoor.Vo Go.Proofs.YtnkninjdpgpkmaaGreatDoor.Bw Go.Proofs.YtnkninjdpgpkmaaGreatDoor.Bm Go.Proofs.YtnkninjdpgpkmaaGreatDoor.Br Go.Proofs.YtnkninjdpgpkmaaGreatDoor.Bs Go.Proofs.YtnkninjdpgpkmaaGreatDoor.Na Go.Proofs.YtnkninjdpgpkmaaGreatDoor.Nm Go.Proofs.YtnkninjdpgpkmaaGreatDoor.Ko Go.Proofs.YtnkninjdpgpkmaaGreatDoor.Ka Go.Proofs.YtnkninjdpgpkmaaGreatDoor.Kb Go.Proofs.YtnkninjdpgpkmaaGreatDoor.Km Go.Proofs.YtnkninjdpgpkmaaGreatDoor.Ks Go.Proofs.YtnkninjdpgpkmaaGreatDoor.Kc Go.Proofs.YtnkninjdpgpkmaaGreatDoor.Kd Go.Proofs.YtnkninjdpgpkmaaGreatDoor.Ke

/-- What Read answers. -/
def reads (g : Nat) (s : ByteArray) (a : Nat) (w : World) (e : Ending) (w' : World) : Prop :=
  ∃ b k z A1 n1 c1 A2 n2 c2, e = .returned (.tuple #[hv b k z (.slice A1 n1 c1) (.slice A2 n2 c2), .int .i64 (headM (num s.data.toList) (8 * s.size) a).1]) ∧
    isH w' (hv b k z (.slice A1 n1 c1) (.slice A2 n2 c2)) (headM (num s.data.toList) (8 * s.size) a).2.1 ∧ rd w' g s (headM (num s.data.toList) (8 * s.size) a).2.2 ∧ Only (At g) w w'

section
variable {w : World} {g : Nat} {s : ByteArray} {a : Nat}
set_option maxRecDepth 100000 in
theorem Read_no (h : rd w g s a) (HH : Hid (∀ u c, rd u c s a → Below w.heap.size w u → Calls Tryz.prog 125 #[.pointer (some ⟨c, 0, none⟩)] u (rdH c s a u))) (he : (headM (num s.data.toList) (8 * s.size) a).1 ≠ 0) :
    Calls Tryz.prog 95 #[.pointer (some ⟨g, 0, none⟩)] w (reads g s a w) := by
  obtain ⟨he1, he2⟩ := head_err he
  have H1 := Lib.hid he1
  have H2 := Lib.hid he2
  obtain ⟨er, her⟩ : ∃ er, er = (headM (num s.data.toList) (8 * s.size) a).1 := ⟨_, rfl⟩
  have HER := Lib.hid her
  rw [← her] at he
  have hne : (er != 0) = true := by simpa using he
  clear he1 he2 her he
  have hg := h.lt
  have h1 := h.below (below_alloc w (.cells #[.bool false, .int .i64 0, .int .i64 0, .slice none 0 0, .slice none 0 0] 143))
  go_enter Tryz.func95, Tryz.ntmps95
  go_wp2_with fail
  refine (Copy_any h1).mono ?_
  rintro e w2 ⟨c, rfl, r2, hc, b2⟩
  rw [size_alloc] at hc
  have HC := Lib.hid hc
  clear hc
  have R2 := Lib.hid r2
  have B2 := Lib.hid b2
  clear r2 b2
  go_wp2_with fail
  refine (HH.out w2 c R2.out (grows (below_alloc w _) B2.out)).mono ?_
  rintro e w3 ⟨b, k, z, A1, n1, c1, A2, n2, c2, rfl, _, o3⟩
  have O3 := Lib.hid o3
  clear o3
  rw [← HER.out]
  have hcs : c = w.heap.size + 1 := HC.out
  have HR : Hid (Blk (w3.alloc (.cells #[.bool b, .int .i64 k, .int .i64 z, .slice A1 n1 c1, .slice A2 n2 c2] 143)) w.heap.size 143 z5) := Lib.hid ((((Blk.fresh w _ _).below B2.out).only O3.out (fun e => by have : w.heap.size = c := e; omega)).below (below_alloc _ _))
  clear hcs
  go_wp2_with (refine wpList_store_row rfl 143 _ _ rfl w.heap.size z5 rfl rfl _ _ HR.out sizeH rfl (one5 _ _ _ _ _ _ _ _ _) ?_)
  refine bodyPost_ret (v := .tuple #[.agg z5, .int .i64 er]) (results_cell2 rfl _ _ w.heap.size 143 z5 _ _ rfl rfl (setRow_heap _ _ _ _ _ _ HR.out) Tryz.underlying143 rfl sizeH) rfl ?_
  have hcs : c = w.heap.size + 1 := HC.out
  have hB : Below w.heap.size w (w3.alloc (.cells #[.bool b, .int .i64 k, .int .i64 z, .slice A1 n1 c1, .slice A2 n2 c2] 143)) :=
    (O3.out.below (grows (below_alloc w _) B2.out) (grows (below_alloc w _) B2.out).size (fun i hi => by have : i = c := hi; omega)).alloc (Nat.le_trans (grows (below_alloc w _) B2.out).size O3.out.size) _
  have hB' := Below_setRow hB (Nat.le_refl _) z5
  refine ⟨false, 0, 0, none, 0, 0, none, 0, 0, by rw [HER.out], ?_, ?_, Only.of_below hB'⟩
  · rw [H1.out]; exact ⟨_, _, rfl, lst_nil _, lst_nil _⟩
  · rw [H2.out]; exact h.below hB'

set_option maxRecDepth 100000 in
theorem Read_ok (h : rd w g s a) (hs : s.size ≤ 281474976710656) (HH : Hid (∀ u c, rd u c s a → Below w.heap.size w u → Calls Tryz.prog 125 #[.pointer (some ⟨c, 0, none⟩)] u (rdH c s a u))) (he : (headM (num s.data.toList) (8 * s.size) a).1 = 0) :
    Calls Tryz.prog 95 #[.pointer (some ⟨g, 0, none⟩)] w (reads g s a w) := by
  obtain ⟨_, hp1, hp2⟩ := head_facts he
  obtain ⟨p, hp⟩ : ∃ p, p = (headM (num s.data.toList) (8 * s.size) a).2.2 := ⟨_, rfl⟩
  rw [← hp] at hp1 hp2
  have HP := Lib.hid hp
  have HE := Lib.hid he
  clear hp he
  have hg := h.lt
  have h1 := h.below (below_alloc w (.cells #[.bool false, .int .i64 0, .int .i64 0, .slice none 0 0, .slice none 0 0] 143))
  go_enter Tryz.func95, Tryz.ntmps95
  go_wp2_with fail
  refine (Copy_any h1).mono ?_
  rintro e w2 ⟨c, rfl, r2, hc, b2⟩
  rw [size_alloc] at hc
  have HC := Lib.hid hc
  clear hc
  have R2 := Lib.hid r2
  have B2 := Lib.hid b2
  clear r2 b2
  go_wp2_with fail
  refine (HH.out w2 c R2.out (grows (below_alloc w _) B2.out)).mono ?_
  rintro e w3 ⟨b, k, z, A1, n1, c1, A2, n2, c2, rfl, i3, o3⟩
  have O3 := Lib.hid o3
  have I3 := Lib.hid (i3 HE.out)
  clear o3 i3
  rw [HE.out]
  obtain ⟨w4, hw4⟩ : ∃ w4, w4 = w3.alloc (.cells #[.bool b, .int .i64 k, .int .i64 z, .slice A1 n1 c1, .slice A2 n2 c2] 143) := ⟨_, rfl⟩
  have hcs : c = w.heap.size + 1 := HC.out
  have HR : Hid (Blk w4 w.heap.size 143 z5) := Lib.hid (by rw [hw4]; exact (((Blk.fresh w _ _).below B2.out).only O3.out (fun e => by have : w.heap.size = c := e; omega)).below (below_alloc _ _))
  have HV : Hid (Blk w4 w3.heap.size 143 #[.bool b, .int .i64 k, .int .i64 z, .slice A1 n1 c1, .slice A2 n2 c2]) := Lib.hid (by rw [hw4]; exact Blk.fresh _ _ _)
  have HI : Hid (isH w4 (hv b k z (.slice A1 n1 c1) (.slice A2 n2 c2)) (headM (num s.data.toList) (8 * s.size) a).2.1) := Lib.hid (by rw [hw4]; exact I3.out.1.below (below_alloc _ _))
  have HRC : Hid (rd w4 c s p) := Lib.hid (by rw [hw4, HP.out]; exact I3.out.2.below (below_alloc _ _))
  have hB2 := grows (below_alloc w (.cells #[.bool false, .int .i64 0, .int .i64 0, .slice none 0 0, .slice none 0 0] 143)) B2.out
  have HB : Hid (Below w.heap.size w w4) := Lib.hid (by
    rw [hw4]
    exact (O3.out.below hB2 hB2.size (fun i hi => by have : i = c := hi; omega)).alloc (Nat.le_trans hB2.size O3.out.size) _)
  have HRG : Hid (rd w4 g s a) := Lib.hid (h.below HB.out)
  have hs3 : Hid (w.heap.size + 1 < w3.heap.size) := Lib.hid (by have h1 := R2.out.lt; have h2 := O3.out.size; omega)
  clear hcs hB2
  go_wp2_with fail
  rw [← hw4]
  refine (At_any HRC.out).mono ?_
  rintro e w5 ⟨rfl, hw⟩
  rw [hw]
  clear hw hw4
  go_wp2_with fail
  refine (advance_any HRG.out hs (by omega) hp2).mono ?_
  rintro e w6 ⟨rfl, r6, o6⟩
  have R6 := Lib.hid r6
  have O6 := Lib.hid o6
  clear r6 o6
  obtain ⟨H, hH⟩ : ∃ H, H = w3.heap.size := ⟨_, rfl⟩
  have HV6 : Hid (Blk w6 H 143 #[.bool b, .int .i64 k, .int .i64 z, .slice A1 n1 c1, .slice A2 n2 c2]) := Lib.hid (by
    rw [hH]; exact HV.out.only O6.out (fun e => by have : w3.heap.size = g := e; have := hs3.out; omega))
  have HR6 : Hid (Blk w6 w.heap.size 143 z5) := Lib.hid (HR.out.only O6.out (fun e => by have : w.heap.size = g := e; omega))
  rw [← hH]
  clear hH
  go_wp2_with (first | (refine wpList_load_row rfl 143 _ rfl H rfl _ _ _ _ HV6.out Tryz.underlying143 rfl sizeH ?_) | (refine wpList_store_row rfl 143 _ _ rfl w.heap.size #[.bool b, .int .i64 k, .int .i64 z, .slice A1 n1 c1, .slice A2 n2 c2] rfl rfl _ _ HR6.out sizeH rfl (one5 _ _ _ _ _ _ _ _ _) ?_))
  refine bodyPost_ret (v := .tuple #[.agg #[.bool b, .int .i64 k, .int .i64 z, .slice A1 n1 c1, .slice A2 n2 c2], .int .i64 0]) (results_cell2 rfl _ _ w.heap.size 143 _ _ _ rfl rfl (setRow_heap _ _ _ _ _ _ HR6.out) Tryz.underlying143 rfl sizeH) rfl ?_
  have OR : Only (fun k => k = w.heap.size) w6 (w6.setRow w.heap.size #[.bool b, .int .i64 k, .int .i64 z, .slice A1 n1 c1, .slice A2 n2 c2]) := only_row (S := fun k => k = w.heap.size) (Only.refl _ _) rfl _
  refine ⟨b, k, z, A1, n1, c1, A2, n2, c2, by rw [HE.out], ?_, ?_, ?_⟩
  · refine (HI.out.off O6.out (fun i hi => ?_)).off OR (fun i hi => ?_)
    · obtain rfl : i = g := hi
      exact ⟨_, _, HRG.out, by decide⟩
    · obtain rfl : i = w.heap.size := hi
      exact ⟨_, _, HR6.out, by decide⟩
  · rw [← HP.out]; exact R6.out.only OR (fun e => by have : g = w.heap.size := e; omega)
  · exact Only.then (Only.then (Only.of_below HB.out) O6.out (fun i hi _ => hi)) OR (fun i hi hlt => by have : i = w.heap.size := hi; omega)

theorem Read_any (h : rd w g s a) (hs : s.size ≤ 281474976710656) (HH : Hid (∀ u c, rd u c s a → Below w.heap.size w u → Calls Tryz.prog 125 #[.pointer (some ⟨c, 0, none⟩)] u (rdH c s a u))) :
    Calls Tryz.prog 95 #[.pointer (some ⟨g, 0, none⟩)] w (reads g s a w) := by
  by_cases he : (headM (num s.data.toList) (8 * s.size) a).1 = 0
  · exact Read_ok h hs HH he
  · exact Read_no h HH he
end
end Go.Proofs.YtnkninjdpgpkmaaGreatDoor.Kf
