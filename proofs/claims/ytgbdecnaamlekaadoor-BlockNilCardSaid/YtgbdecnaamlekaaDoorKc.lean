/-
  bitrow's Bits where there are enough bits and where not; block.readSize, block.advance, block.FixedLits, block.FixedDists, block.bit.
  Conditions: a string of at most 2^48 bytes, a place within it.
-/
import Derived.Test.YtgbdecnaamlekaaDoorKb
import Derived.Test.YtgbdecnaamlekaaDoorBs
import Derived.Test.YtgbdecnaamlekaaDoorKs
namespace Go.Proofs.YtgbdecnaamlekaaDoor.Kc
open Go.RowKit Go.Proofs.YtgbdecnaamlekaaDoor.Vm Go.Proofs.YtgbdecnaamlekaaDoor.Vo Go.Proofs.YtgbdecnaamlekaaDoor.Bw Go.Proofs.YtgbdecnaamlekaaDoor.Bm Go.Proofs.YtgbdecnaamlekaaDoor.Bt Go.Proofs.YtgbdecnaamlekaaDoor.Br Go.Proofs.YtgbdecnaamlekaaDoor.Bp Go.Proofs.YtgbdecnaamlekaaDoor.Bs Go.Proofs.YtgbdecnaamlekaaDoor.Na Go.Proofs.YtgbdecnaamlekaaDoor.Nm Go.Proofs.YtgbdecnaamlekaaDoor.Ko Go.Proofs.YtgbdecnaamlekaaDoor.Nf Go.Proofs.YtgbdecnaamlekaaDoor.Ka Go.Proofs.YtgbdecnaamlekaaDoor.Kb Go.Proofs.YtgbdecnaamlekaaDoor.Km

section
variable {w : World} {g : Nat} {s : ByteArray} {a : Nat}
theorem chk_has {m : Nat} (hm : m ≤ 32) (h : a + m ≤ 8 * s.size) : chk s a (m : Int) = 0 := by
  unfold chk
  have : cnt (m : Int) = true := by simp [cnt]; omega
  rw [if_pos this, if_neg (by omega)]
theorem chk_short {m : Nat} (hm : m ≤ 32) (h : 8 * s.size - a < m) : chk s a (m : Int) = 2 := by
  unfold chk
  have : cnt (m : Int) = true := by simp [cnt]; omega
  rw [if_pos this, if_pos (by omega)]
theorem Bits_has {z : Int} {m : Nat} (hz : z = (m : Int)) (hm : m ≤ 32) (h : rd w g s a) (hs : s.size ≤ 281474976710656) (ha : a + m ≤ 8 * s.size) :
    Calls Tryd.prog 53 #[.pointer (some ⟨g, 0, none⟩), .int .i64 z] w fun e w' => e = .returned (.tuple #[.int .i64 (peekN (num s.data.toList) a m : Nat), .int .i64 0]) ∧ rd w' g s (a + m) ∧ Only (At g) w w' := by
  subst hz
  have hc := chk_has hm ha
  have hcn : cnt (m : Int) = true := by simp [cnt]; omega
  refine (Bits_any (m : Int) h hs (by omega)).mono ?_
  rintro e w' ⟨rfl, r1, o1⟩
  have e1 : bitsV s a (m : Int) = (peekN (num s.data.toList) a m : Nat) := by unfold bitsV peekR; rw [if_pos hc, if_pos hcn, Int.toNat_natCast]
  have e2 : moved s a (m : Int) = a + m := by unfold moved; rw [if_pos hc]; rfl
  rw [e2] at r1
  exact ⟨by rw [e1, hc], r1, o1⟩
theorem Bits_short {z : Int} {m : Nat} (hz : z = (m : Int)) (hm : m ≤ 32) (h : rd w g s a) (hs : s.size ≤ 281474976710656) (ha : a ≤ 8 * s.size) (hl : 8 * s.size - a < m) :
    Calls Tryd.prog 53 #[.pointer (some ⟨g, 0, none⟩), .int .i64 z] w fun e w' => e = .returned (.tuple #[.int .i64 0, .int .i64 2]) ∧ rd w' g s a ∧ Only (At g) w w' := by
  subst hz
  have hc := chk_short (a := a) hm hl
  refine (Bits_any (m : Int) h hs ha).mono ?_
  rintro e w' ⟨rfl, r1, o1⟩
  have e1 : bitsV s a (m : Int) = 0 := by unfold bitsV; rw [if_neg (by rw [hc]; decide)]
  have e2 : moved s a (m : Int) = a := by unfold moved; rw [if_neg (by rw [hc]; decide)]
  rw [e2] at r1
  exact ⟨by rw [e1, hc], r1, o1⟩
end

theorem xor16 {x : Nat} (h : x < 65536) : bits .xor .i64 (x : Int) 65535 = ((65535 - x : Nat) : Int) := by
  have h0 : x ^^^ 65535 = 65535 - x := by
    have h1 := congrArg BitVec.toNat (BitVec.xor_allOnes (x := BitVec.ofNat 16 x))
    rw [BitVec.toNat_xor, BitVec.toNat_not, BitVec.toNat_ofNat, BitVec.toNat_allOnes, Nat.mod_eq_of_lt h] at h1
    exact h1
  unfold bits
  have e : (BitVec.ofInt 64 (x : Int) ^^^ BitVec.ofInt 64 ((65535 : Nat) : Int)).toNat = 65535 - x := by
    rw [BitVec.toNat_xor, ofInt_u64 x (by omega), ofInt_u64 65535 (by omega), h0]
  show IntKind.i64.wrap _ = _
  rw [IntWalk.i64_left]
  have h4 : wrap64 ((65535 - x : Nat) : Int) = ((65535 - x : Nat) : Int) := wrap64_in (by omega) (by omega)
  rw [← h4]
  exact congrArg (fun n : Nat => wrap64 (n : Int)) e
theorem peek_lo (N a : Nat) : peekN N a 32 % 65536 = peekN N a 16 := by
  have h := peekN_add N a 16 16
  have h1 := peekN_lt N a 16
  rw [show (16 + 16 : Nat) = 32 from rfl] at h
  omega
theorem peek_hi (N a : Nat) : peekN N a 32 / 65536 = peekN N (a + 16) 16 := by
  have h := peekN_add N a 16 16
  have h1 := peekN_lt N a 16
  rw [show (16 + 16 : Nat) = 32 from rfl] at h
  omega

set_option maxRecDepth 100000 in
theorem readSize_any {w : World} {g : Nat} {s : ByteArray} {a : Nat} (h : rd w g s a) (hs : s.size ≤ 281474976710656) (ha : a ≤ 8 * s.size) :
    Calls Tryd.prog 54 #[.pointer (some ⟨g, 0, none⟩)] w fun e w' => e = .returned (.tuple #[.int .i64 ((stoM (num s.data.toList) (8 * s.size) a).2.1 : Nat), .int .i64 (stoM (num s.data.toList) (8 * s.size) a).1])
      ∧ ((stoM (num s.data.toList) (8 * s.size) a).1 = 0 → rd w' g s (stoM (num s.data.toList) (8 * s.size) a).2.2) ∧ Only (At g) w w' := by
  have HA := Lib.hid (Align_any h hs ha)
  obtain ⟨b, hb⟩ : ∃ b, b = (a + 7) / 8 * 8 := ⟨_, rfl⟩
  have hbM : b ≤ 8 * s.size := by omega
  by_cases hl : 8 * s.size - b < 32
  · have HS := Lib.hid (show stoM (num s.data.toList) (8 * s.size) a = (2, 0, 0) by unfold stoM; rw [← hb, if_pos hl])
    rw [← hb] at HA
    go_enter Tryd.func54, Tryd.ntmps54
    go_wp2_with fail
    refine HA.out.mono ?_
    rintro e w1 ⟨rfl, r1, o1⟩
    go_wp2_with fail
    refine (Bits_short (m := 32) rfl (by omega) r1 hs hbM hl).mono ?_
    rintro e w2 ⟨rfl, r2, o2⟩
    go_wp2
    go_ret2
    exact ⟨ret_int2 (by rw [HS.out]; rfl) (by rw [HS.out]), fun e => (by rw [HS.out] at e; cases e), o1.trans o2⟩
  · obtain ⟨x, hx⟩ : ∃ x, x = peekN (num s.data.toList) b 16 := ⟨_, rfl⟩
    obtain ⟨y, hy⟩ : ∃ y, y = peekN (num s.data.toList) (b + 16) 16 := ⟨_, rfl⟩
    obtain ⟨v, hv⟩ : ∃ v, v = peekN (num s.data.toList) b 32 := ⟨_, rfl⟩
    have hx16 : x < 65536 := by rw [hx]; exact peekN_lt _ _ _
    have hy16 : y < 65536 := by rw [hy]; exact peekN_lt _ _ _
    have e1 : v % 65536 = x := by rw [hv, hx]; exact peek_lo _ _
    have e2 : v / 65536 = y := by rw [hv, hy]; exact peek_hi _ _
    have e1' : (v : Int) % 65536 = (x : Int) := by omega
    have e2' : (v : Int) / 65536 = (y : Int) := by omega
    have hxor := xor16 hx16
    have HV := Lib.hid hv
    have HX := Lib.hid hx
    have HY := Lib.hid hy
    rw [← hb] at HA
    have HB := Lib.hid hb
    clear e1 e2 hv hx hy hb
    by_cases hxy : x + y = 65535
    · have HS := Lib.hid (show stoM (num s.data.toList) (8 * s.size) a = (0, x, b + 32) by unfold stoM; rw [← HB.out, if_neg hl, ← HX.out, ← HY.out, if_neg (by omega)])
      have hne : ((y : Int) != ((65535 - x : Nat) : Int)) = false := by simp; omega
      go_enter Tryd.func54, Tryd.ntmps54
      go_wp2_with fail
      refine HA.out.mono ?_
      rintro e w1 ⟨rfl, r1, o1⟩
      go_wp2_with fail
      refine (Bits_has (m := 32) rfl (by omega) r1 hs (by omega)).mono ?_
      rintro e w2 ⟨rfl, r2, o2⟩
      rw [← HV.out]
      go_wp2
      go_ret2
      exact ⟨ret_int2 (by rw [HS.out]; exact e1') (by rw [HS.out]), fun _ => (by rw [HS.out]; exact r2), o1.trans o2⟩
    · have HS := Lib.hid (show stoM (num s.data.toList) (8 * s.size) a = (6, 0, 0) by unfold stoM; rw [← HB.out, if_neg hl, ← HX.out, ← HY.out, if_pos (by omega)])
      have hne : ((y : Int) != ((65535 - x : Nat) : Int)) = true := by simp; omega
      go_enter Tryd.func54, Tryd.ntmps54
      go_wp2_with fail
      refine HA.out.mono ?_
      rintro e w1 ⟨rfl, r1, o1⟩
      go_wp2_with fail
      refine (Bits_has (m := 32) rfl (by omega) r1 hs (by omega)).mono ?_
      rintro e w2 ⟨rfl, r2, o2⟩
      rw [← HV.out]
      go_wp2
      go_ret2
      exact ⟨ret_int2 (by rw [HS.out]; rfl) (by rw [HS.out]), fun e => (by rw [HS.out] at e; cases e), o1.trans o2⟩

theorem bit_any (b : Bool) (w : World) : Calls Tryd.prog 42 #[.bool b] w fun e w' => e = .returned (.int .i64 (b.toNat : Nat)) ∧ w = w' := by
  cases b
  all_goals
    go_enter Tryd.func42, Tryd.ntmps42
    go_wp2
    go_ret
    exact ⟨rfl, rfl⟩

/-- The reader goes to a later place. -/
theorem Skip_has {w : World} {g : Nat} {s : ByteArray} {a : Nat} {z : Int} {m : Nat} (hz : z = (m : Int)) (hm : m ≤ 32) (h : rd w g s a) (hs : s.size ≤ 281474976710656) (ha : a + m ≤ 8 * s.size) :
    Calls Tryd.prog 56 #[.pointer (some ⟨g, 0, none⟩), .int .i64 z] w fun e w' => e = .returned (.int .i64 0) ∧ rd w' g s (a + m) ∧ Only (At g) w w' := by
  subst hz
  have hc := chk_has hm ha
  refine (Skip_any (m : Int) h hs (by omega)).mono ?_
  rintro e w' ⟨rfl, r1, o1⟩
  have e2 : moved s a (m : Int) = a + m := by unfold moved; rw [if_pos hc]; rfl
  rw [e2] at r1
  exact ⟨by rw [hc], r1, o1⟩

set_option maxRecDepth 100000 in
theorem advance_any {w : World} {g : Nat} {s : ByteArray} {a b : Nat} (h : rd w g s a) (hs : s.size ≤ 281474976710656) (hab : a ≤ b) (hb : b ≤ 8 * s.size) :
    Calls Tryd.prog 35 #[.pointer (some ⟨g, 0, none⟩), .int .i64 (b : Int)] w fun e w' => e = .returned (.tuple #[]) ∧ rd w' g s b ∧ Only (At g) w w' := by
  have HR := Lib.hid h
  obtain ⟨M, hM⟩ : ∃ M, M = 8 * s.size := ⟨_, rfl⟩
  have HM := Lib.hid hM
  have hM48 : M ≤ 2251799813685248 := by omega
  have hbM : b ≤ M := by omega
  have HS := Lib.hid hs
  clear h hM hb hs
  go_enter Tryd.func35, Tryd.ntmps35
  go_wp2_with fail
  refine (At_any HR.out).mono ?_
  rintro e w1 ⟨rfl, hw⟩
  rw [hw]
  go_wp2_with fail
  go_loopw [4] (fun s4 wr => ∃ (x : Int) (c : Nat), s4 = .int .i64 x ∧ x ≤ (b : Int) - (c : Int) ∧ a ≤ c ∧ c ≤ b ∧ ((0 < x ∧ x = (b : Int) - (c : Int)) ∨ (x ≤ 0 ∧ -32 ≤ x ∧ c = b)) ∧ Hid (rd wr g s c) ∧ Hid (Only (At g) w wr)) (fun s4 _ => (intOf s4).toNat)
  case atStart =>
    refine ⟨(b : Int) - (a : Int), a, by go_num, by omega, by omega, hab, ?_, HR, Lib.hid (Only.refl _ _)⟩
    rcases Nat.lt_or_ge a b with h | h
    · exact .inl ⟨by omega, by omega⟩
    · exact .inr ⟨by omega, by omega, by omega⟩
  case round =>
    obtain ⟨x, c, rfl, hx1, hac, hcb, hx2, HC, HO⟩ := hrel
    by_cases hx0 : 0 < x
    · obtain ⟨m, hm⟩ : ∃ m : Nat, (m : Int) = min x 32 := ⟨(min x 32).toNat, by omega⟩
      have hm1 : 1 ≤ m := by omega
      have hm2 : m ≤ 32 := by omega
      have hm3 : c + m ≤ b := by omega
      have hm4 : x ≤ 32 → (m : Int) = x := by omega
      have hm5 : 32 < x → m = 32 := by omega
      have HMM := Lib.hid hm
      have H4 := Lib.hid hm4
      have H5 := Lib.hid hm5
      have hx3 : x ≤ 2251799813685248 := by omega
      have HX2 := Lib.hid hx2
      clear hm hm4 hm5 hx2
      go_wp2_with fail
      all_goals
        refine (Skip_has (m := m) (by have := HMM.out; omega) hm2 HC.out HS.out (by have := HM.out; omega)).mono ?_
        rintro e w2 ⟨rfl, r2, o2⟩
        have R2 := Lib.hid r2
        have O2 := Lib.hid o2
        clear r2 o2
        go_wp2
        go_roundw
        case rel =>
          have e4 := H4.out
          have e5 := H5.out
          have e2 := HX2.out
          refine ⟨x - 32, c + m, by go_num, by omega, by omega, hm3, by omega, R2, Lib.hid (HO.out.trans O2.out)⟩
        case measure => simp [intOf]; omega
    · go_wp2
      go_end0
      have hcb2 : c = b := by omega
      rw [hcb2] at HC
      exact ⟨rfl, HC.out, HO.out⟩
end Go.Proofs.YtgbdecnaamlekaaDoor.Kc
