/-
  collimatorlaw02.CrcTurned returns true for every string, place and mask: a string in which bits within 32 that stand one behind the other are turned has another sum.
  Conditions: none.
-/
import Derived.Test.YtfmpmjbgimeedaaCk
import Derived.Test.YtfmpmjbgimeedaaCb
import Derived.Test.YtfmpmjbgimeedaaCc
import Derived.Test.YtfmpmjbgimeedaaLw
namespace Go.Proofs.Ytfmpmjbgimeedaa.crcTurned
open Go.ChangeShapes Go.WideShapes Go.ChangeAt Go.RowKit
open Go.ChangeMaps (open_string shut_string)
open Go.Proofs.Ytfmpmjbgimeedaa.Lw Go.Proofs.Ytfmpmjbgimeedaa.Cm Go.Proofs.Ytfmpmjbgimeedaa.Ce Go.Proofs.Ytfmpmjbgimeedaa.Ct Go.Proofs.Ytfmpmjbgimeedaa.Co Go.Proofs.Ytfmpmjbgimeedaa.Ck Go.Proofs.Ytfmpmjbgimeedaa.Cb Go.Proofs.Ytfmpmjbgimeedaa.Cc

theorem own : ownKnob Try.prog.godebug = none := by kernel_rfl
theorem laidOut : laidOutB Try.prog = true := by kernel_rfl

theorem len_of (s : ByteArray) : s.data.toList.length = s.size := by rw [Array.length_toList]; rfl
theorem bit_one {m i : Nat} (h : m / 2 ^ i % 2 = 1) : m % 2 ^ (i + 1) = m % 2 ^ i ^^^ 2 ^ i := by
  apply Nat.eq_of_testBit_eq
  intro j
  rw [Nat.testBit_xor, Nat.testBit_mod_two_pow, Nat.testBit_mod_two_pow, Nat.testBit_two_pow]
  by_cases hj : i = j
  · subst hj
    have : m.testBit i = true := by rw [Nat.testBit_eq_decide_div_mod_eq]; simp [h]
    simp [this]
  · by_cases hl : j < i
    · simp [hj, hl, show j < i + 1 by omega]
    · simp [hj, hl, show ¬ j < i + 1 by omega]
theorem bit_none {m i : Nat} (h : ¬ m / 2 ^ i % 2 = 1) : m % 2 ^ (i + 1) = m % 2 ^ i := by
  apply Nat.eq_of_testBit_eq
  intro j
  rw [Nat.testBit_mod_two_pow, Nat.testBit_mod_two_pow]
  by_cases hj : i = j
  · subst hj
    have : m.testBit i = false := by rw [Nat.testBit_eq_decide_div_mod_eq]; simp [h]
    simp [this]
  · by_cases hl : j < i
    · simp [hl, show j < i + 1 by omega]
    · simp [hl, show ¬ j < i + 1 by omega]

theorem xorbit (x : UInt8) (r : Nat) (hr : r < 8) : bits .xor .u8 (x.toNat : Int) (2 ^ r % 256) = ((x ^^^ UInt8.ofNat (2 ^ r)).toNat : Int) := by
  have h8 : 2 ^ r < 2 ^ 8 := Nat.pow_lt_pow_right (by omega) hr
  have h := u8_xor_nat x.toNat (2 ^ r % 256) (UInt8.toNat_lt x) (by omega)
  have e : (UInt8.ofNat (2 ^ r)).toNat = 2 ^ r % 256 := by simp
  rw [UInt8.toNat_xor, e, ← h]
  congr 1
theorem differs (a b : Nat) {t : Nat} {tb : Bool} (h : a = b ↔ t = 0) (ht : tb = true ↔ t ≠ 0) : (((a : Int) != (b : Int)) == tb) = true := by
  cases tb with
  | true =>
    have : a ≠ b := fun e => (ht.1 rfl) (h.1 e)
    simp; omega
  | false =>
    have h0 : t = 0 := by
      by_cases h0 : t = 0
      · exact h0
      · exact absurd (ht.2 h0) (by simp)
    simp [h.2 h0]

set_option maxHeartbeats 4000000 in
set_option maxRecDepth 100000 in
theorem inner (s : ByteArray) (c : Int) (m : Nat) (hs1 : 1 ≤ s.size) (hs : s.size ≤ 2000) (hc : -9223372036854775808 ≤ c ∧ c ≤ 9223372036854775807) (hm : m < 4294967296) (hm0 : m ≠ 0) (w : World) :
    Calls Try.prog 6 #[.string s, .int .i64 c, .int .u32 m] w fun e w' => e = .returned (.bool true) ∧ Below w.heap.size w w' := by
  have hcv := run_bytes_of_string (P := Try.prog) w 9 35 5 s Try.underlying9 Try.underlying35 Try.underlying5
  generalize grownCap w s.size 0 5 = cap at hcv
  have HN := Lib.hid (bytesIn_new w s cap 5)
  generalize bytesRow s cap = C at *
  have t1 : (decide ((s.size : Int) < 1)) = false := by simp; omega
  have t2 : (decide ((2000 : Int) < (s.size : Int))) = false := by simp; omega
  have t3 : ((m : Int) == 0) = false := by simp; omega
  go_enter Try.func6, Try.ntmps6
  go_wp2_with fail
  refine (Count_any c (8 * s.size) hc (by omega) (by omega) _).mono ?_
  rintro e w' ⟨rfl, rfl⟩
  have hk : cnt c (8 * s.size) < 8 * s.size := cnt_lt c (by omega)
  generalize cnt c (8 * s.size) = k at *
  go_wp2
  clear hcv t1 t2 t3
  have HB0 : Hid (Below w.heap.size w (w.alloc (.cells C 5 (C.size, C.size + 1)))) := Lib.hid ((Below.refl _ _).alloc (Nat.le_refl _) _)
  have ls := len_of s
  go_loopw [10, 11] (fun v j wr => ∃ (tb : Bool) (i : Nat) (l : List UInt8), v = .bool tb ∧ j = .int .i64 i ∧ i ≤ 32 ∧ k + i ≤ 8 * s.size ∧ l.length = s.size ∧ Hid (tb = true ↔ m % 2 ^ i ≠ 0) ∧ Hid (leN l = leN s.data.toList ^^^ m % 2 ^ i * 2 ^ k)
      ∧ Hid (bytesIn wr w.heap.size 5 l) ∧ Below w.heap.size w wr)
    (fun _ j _ => (32 - intOf j).toNat)
  case atStart => exact ⟨false, 0, s.data.toList, rfl, rfl, by omega, by omega, ls, Lib.hid (by simp [Nat.mod_one]), Lib.hid (by simp [Nat.mod_one]), Lib.hid HN.out.drew, HB0.out.drew⟩
  case round =>
    obtain ⟨tb, i, l, rfl, rfl, hi, hki, hl, HT, HE, HI, hbel⟩ := hrel
    clear HN HB0
    by_cases h32 : i < 32
    · by_cases hkn : k + i < 8 * s.size
      · have g1 : (decide ((i : Int) < 32)) = true := by simp; omega
        have g2 : (decide ((k : Int) + (i : Int) < 8 * (s.size : Int))) = true := by simp; omega
        have d1 : bits .and .u32 ((m : Int) / 2 ^ i) 1 = ((m / 2 ^ i % 2 : Nat) : Int) := by
          have h := and1 (m / 2 ^ i) (Nat.lt_of_le_of_lt (Nat.div_le_self _ _) hm)
          rw [← h]; simp
        by_cases hbit : m / 2 ^ i % 2 = 1
        · have d2 : (bits .and .u32 ((m : Int) / 2 ^ i) 1 == 1) = true := by rw [d1, hbit]; rfl
          obtain ⟨p, hp, HP⟩ : ∃ p : Nat, (k : Int) + (i : Int) = (p : Int) ∧ Hid (p = k + i) := ⟨k + i, by omega, Lib.hid rfl⟩
          obtain ⟨q, hq, HQ⟩ : ∃ q : Nat, (p : Int) / 8 = (q : Int) ∧ Hid (q = p / 8) := ⟨p / 8, by omega, Lib.hid rfl⟩
          obtain ⟨r, hr, HR⟩ : ∃ r : Nat, (p : Int) % 8 = (r : Int) ∧ Hid (r = p % 8) := ⟨p % 8, by omega, Lib.hid rfl⟩
          have hp8 : p < 8 * s.size := by have := HP.out; omega
          have hqs : q < s.size := by have := HQ.out; omega
          have hqs' : (q : Int) < (s.size : Int) := by omega
          have hr8 : r < 8 := by have := HR.out; omega
          obtain ⟨x, hx⟩ : ∃ x, l[q]? = some x := ⟨_, List.getElem?_eq_getElem (by omega)⟩
          have hc1 := HI.out.cell hx
          have hf1 := HI.out.frozen (j := q) (by omega)
          have x1 := xorbit x r hr8
          have HE' : Hid (leN (l.set q (x ^^^ UInt8.ofNat (2 ^ r))) = leN s.data.toList ^^^ m % 2 ^ (i + 1) * 2 ^ k) := Lib.hid (by
            rw [leN_set l q r x hx hr8, HE.out, bit_one hbit, mul_xor, ← Nat.pow_add, Nat.xor_assoc, show 8 * q + r = i + k by have := HP.out; have := HQ.out; have := HR.out; omega])
          have HT' : Hid (true = true ↔ m % 2 ^ (i + 1) ≠ 0) := Lib.hid (by
            have : m % 2 ^ (i + 1) ≠ 0 := by
              intro h0
              have h1 : (m % 2 ^ (i + 1)).testBit i = true := by rw [Nat.testBit_mod_two_pow, Nat.testBit_eq_decide_div_mod_eq]; simp [hbit]
              rw [h0] at h1
              simp at h1
            simp [this])
          have hl' : (l.set q (x ^^^ UInt8.ofNat (2 ^ r))).length = s.size := by rw [List.length_set]; exact hl
          have HI' := Lib.hid (HI.out.store q (x ^^^ UInt8.ofNat (2 ^ r)))
          have HBel := Lib.hid (hbel.setCell (p := ⟨w.heap.size, q, none⟩) (Nat.le_refl _) (.int .u8 ((x ^^^ UInt8.ofNat (2 ^ r)).toNat : Int)))
          generalize l.set q (x ^^^ UInt8.ofNat (2 ^ r)) = l' at *
          generalize x ^^^ UInt8.ofNat (2 ^ r) = z at *
          clear d1 hx HI hbel HE HT
          go_wp2_with fail
          go_roundw
          case rel => exact ⟨true, i + 1, l', rfl, by go_num, by omega, by omega, hl', HT', HE', HI', HBel.out⟩
          case measure => simp [intOf]; omega
        · have d2 : (bits .and .u32 ((m : Int) / 2 ^ i) 1 == 1) = false := by rw [d1, show m / 2 ^ i % 2 = 0 by omega]; rfl
          have HE' : Hid (leN l = leN s.data.toList ^^^ m % 2 ^ (i + 1) * 2 ^ k) := Lib.hid (by rw [bit_none hbit]; exact HE.out)
          have HT' : Hid (tb = true ↔ m % 2 ^ (i + 1) ≠ 0) := Lib.hid (by rw [bit_none hbit]; exact HT.out)
          clear d1 hbit
          go_wp2_with fail
          go_roundw
          case rel => exact ⟨tb, i + 1, l, rfl, by go_num, by omega, by omega, hl, HT', HE', HI, hbel⟩
          case measure => simp [intOf]; omega
      · have g1 : (decide ((i : Int) < 32)) = true := by simp; omega
        have g2 : (decide ((k : Int) + (i : Int) < 8 * (s.size : Int))) = false := by simp; omega
        have hcon := on_turned l s.data.toList (m % 2 ^ i) k (by rw [hl, ls]) (Nat.lt_of_le_of_lt (Nat.mod_le _ _) hm) (by rw [ls]; omega) HE.out
        have hst := HI.out.string (P := Try.prog) (src := 35) (dst := 9) cap Try.underlying35 Try.underlying5 Try.underlying9
        rw [hl] at hst
        have sX : (⟨l.toArray⟩ : ByteArray).size ≤ 9223372036854775807 := by show l.toArray.size ≤ _; rw [List.size_toArray, hl]; omega
        have cX : Hid (∀ w, Calls Try.prog 11 #[.string ⟨l.toArray⟩] w fun e w' => e = .returned (.int .u32 (con 0 l)) ∧ Below w.heap.size w w') := Lib.hid (fun w => by simpa using Of_any ⟨l.toArray⟩ w sX)
        have htb : ((((con 0 l : Nat) : Int) != ((con 0 s.data.toList : Nat) : Int)) == tb) = true := differs (con 0 l) (con 0 s.data.toList) hcon HT.out
        clear hcon HE HT HI hl ls sX
        go_wp2_with fail
        refine (cX.out _).mono ?_
        rintro e w1 ⟨rfl, b1⟩
        go_wp2_with fail
        refine (Of_any s _ (by omega)).mono ?_
        rintro e w2 ⟨rfl, b2⟩
        go_wp2_with (go_at_call 8; refine (known_any _).mono ?_; rintro e w' ⟨rfl, hb⟩)
        go_ret
        exact ⟨rfl, grows (grows (grows hbel b1) b2) hb⟩
    · have g1 : (decide ((i : Int) < 32)) = false := by simp; omega
      have hcon := on_turned l s.data.toList (m % 2 ^ i) k (by rw [hl, ls]) (Nat.lt_of_le_of_lt (Nat.mod_le _ _) hm) (by rw [ls]; omega) HE.out
      have hst := HI.out.string (P := Try.prog) (src := 35) (dst := 9) cap Try.underlying35 Try.underlying5 Try.underlying9
      rw [hl] at hst
      have sX : (⟨l.toArray⟩ : ByteArray).size ≤ 9223372036854775807 := by show l.toArray.size ≤ _; rw [List.size_toArray, hl]; omega
      have cX : Hid (∀ w, Calls Try.prog 11 #[.string ⟨l.toArray⟩] w fun e w' => e = .returned (.int .u32 (con 0 l)) ∧ Below w.heap.size w w') := Lib.hid (fun w => by simpa using Of_any ⟨l.toArray⟩ w sX)
      have htb : ((((con 0 l : Nat) : Int) != ((con 0 s.data.toList : Nat) : Int)) == tb) = true := differs (con 0 l) (con 0 s.data.toList) hcon HT.out
      clear hcon HE HT HI hl ls sX
      go_wp2_with fail
      refine (cX.out _).mono ?_
      rintro e w1 ⟨rfl, b1⟩
      go_wp2_with fail
      refine (Of_any s _ (by omega)).mono ?_
      rintro e w2 ⟨rfl, b2⟩
      go_wp2_with (go_at_call 8; refine (known_any _).mono ?_; rintro e w' ⟨rfl, hb⟩)
      go_ret
      exact ⟨rfl, grows (grows (grows hbel b1) b2) hb⟩

set_option maxRecDepth 100000 in
theorem walk (s : ByteArray) (c m : Int) (_ : s.size ≤ maxLen) (w1 : (Lit.int .i64 c).wf = true) (w2 : (Lit.int .u32 m).wf = true) (w : World) :
    Calls Try.prog 6 #[.string s, .int .i64 c, .int .u32 m] w fun e w' => e = .returned (.bool true) ∧ Below w.heap.size w w' := by
  have hc : -9223372036854775808 ≤ c ∧ c ≤ 9223372036854775807 := by simpa [Lit.wf, IntKind.min, IntKind.max, IntKind.signed, IntKind.bits] using w1
  have hm0 : 0 ≤ m ∧ m ≤ 4294967295 := by simpa [Lit.wf, IntKind.min, IntKind.max, IntKind.signed, IntKind.bits] using w2
  obtain ⟨n, rfl⟩ := Int.eq_ofNat_of_zero_le hm0.1
  by_cases h1 : s.size < 1
  · have t1 : (decide ((s.size : Int) < 1)) = true := by simp; omega
    go_enter Try.func6, Try.ntmps6
    go_wp2_with (go_at_call 8; refine (known_any _).mono ?_; rintro e w' ⟨rfl, hb⟩)
    go_ret
    exact ⟨rfl, hb⟩
  · by_cases h2 : 2000 < s.size
    · have t1 : (decide ((s.size : Int) < 1)) = false := by simp; omega
      have t2 : (decide ((2000 : Int) < (s.size : Int))) = true := by simp; omega
      go_enter Try.func6, Try.ntmps6
      go_wp2_with (go_at_call 8; refine (known_any _).mono ?_; rintro e w' ⟨rfl, hb⟩)
      go_ret
      exact ⟨rfl, hb⟩
    · by_cases h3 : n = 0
      · have t1 : (decide ((s.size : Int) < 1)) = false := by simp; omega
        have t2 : (decide ((2000 : Int) < (s.size : Int))) = false := by simp; omega
        subst h3
        go_enter Try.func6, Try.ntmps6
        go_wp2_with (go_at_call 8; refine (known_any _).mono ?_; rintro e w' ⟨rfl, hb⟩)
        go_ret
        exact ⟨rfl, hb⟩
      · exact inner s c n (by omega) (by omega) hc (by omega) h3 w

set_option maxRecDepth 100000 in
theorem lifted (os : Os) (started : os.Started) (H : Type) (enc : TypeId × Value → H) :
    ReturnsInHanded {} Try.checked os 6 .any (Rows.crcTurnedSpec.pre6 enc Try.prog Try.f6 Rows.crcTurnedRow.domain false) (Rows.crcTurnedSpec.post enc Try.prog Try.f6 false true false false) := by
  refine returnsInHanded_of_change (C := Try.checked) own started (by kernel_rfl) Try.func6
    (ChangeSpec.witness6 (enc := enc) (C := Try.checked) false ⟨#[], #[.string ByteArray.empty, .int .i64 0, .int .u32 0], []⟩ 8 (by kernel_rfl) (by kernel_rfl) (by kernel_rfl) (by kernel_rfl)) ?_
  intro W base args ds gs before hval0 hW _ _
  have hval : ∀ (j : Nat) t v, Try.f6.params[j]? = some t → args[j]? = some v → Value.okWide Try.prog W .any base t v := hval0
  have hW' := hW
  obtain ⟨p, q, hA0, hV, rfl, hfz, hnd⟩ := hW
  have hA : DataW.TrodAll enc Try.prog W 0 (fun _ => true) true Try.f6.params.toList args.toList ds p := hA0
  rw [Try.params6] at hA hval
  obtain ⟨v0, vs0, d0, ds0, p0, q0, hargs, rfl, rfl, h0, r0⟩ := trodAll_cons hA
  obtain ⟨v1, vs1, d1, ds1, p1, q1, rfl, rfl, rfl, h1, r1⟩ := trodAll_cons r0
  obtain ⟨v2, vs2, d2, ds2, p2, q2, rfl, rfl, rfl, h2, r2⟩ := trodAll_cons r1
  obtain ⟨rfl, rfl, rfl⟩ := trodAll_nil r2
  obtain rfl : args = #[v0, v1, v2] := by cases args; simp_all
  obtain ⟨rfl, rfl⟩ := trodVars_none hV
  obtain ⟨a0, rfl, rfl, rfl, w0⟩ := open_string Try.underlying9 (hval 0 9 v0 rfl rfl) h0
  obtain ⟨a1, rfl, rfl, rfl, w1⟩ := open_int Try.underlying3 (hval 1 3 v1 rfl rfl) h1
  obtain ⟨a2, rfl, rfl, rfl, w2⟩ := open_int Try.underlying22 (hval 2 22 v2 rfl rfl) h2
  refine (walk a0 a1 a2 w0 w1 w2 W).mono fun e W' ⟨he, hb⟩ => ?_
  subst he
  exact ⟨_, rfl, law_post (P := Try.prog) (f := Try.f6) laidOut (by kernel_rfl) (by kernel_rfl) Try.underlying4 rfl hW' rfl hb⟩

theorem proved : Rows.CrcTurnedSaid :=
  OpenClaim.holds_of_wide 6 Try.f6 rfl rfl rfl rfl rfl rfl rfl ⟨rfl, rfl, rfl, rfl, rfl⟩ rfl rfl rfl rfl rfl (by kernel_rfl) Try.func6 (by kernel_rfl)
    (of_decide_eq_true (by kernel_rfl)) (by unfold Func.isWrapper; first | (rw [if_pos (by decide +kernel)]; kernel_rfl) | (rw [if_neg (by decide +kernel)]; exact ⟨rfl, rfl⟩))
    (fun os started H enc _ => lifted os started H enc)
#print axioms proved
end Go.Proofs.Ytfmpmjbgimeedaa.crcTurned
