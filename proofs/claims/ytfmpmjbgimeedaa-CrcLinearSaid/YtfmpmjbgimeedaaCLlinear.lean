/-
  collimatorlaw02.CrcLinear returns true for every three strings: of three of one length the exclusive or of the sums is the sum of their exclusive or.
  Conditions: none.
-/
import Derived.Test.YtfmpmjbgimeedaaCk
import Derived.Test.YtfmpmjbgimeedaaCb
import Derived.Test.YtfmpmjbgimeedaaLw
import Derived.Deep.RegionHeld3
namespace Go.Proofs.Ytfmpmjbgimeedaa.crcLinear
open Go.ChangeShapes Go.WideShapes Go.ChangeAt Go.RowKit
open Go.ChangeMaps (open_string shut_string)
open Go.Proofs.Ytfmpmjbgimeedaa.Lw Go.Proofs.Ytfmpmjbgimeedaa.Cm Go.Proofs.Ytfmpmjbgimeedaa.Ce Go.Proofs.Ytfmpmjbgimeedaa.Ct Go.Proofs.Ytfmpmjbgimeedaa.Co Go.Proofs.Ytfmpmjbgimeedaa.Ck Go.Proofs.Ytfmpmjbgimeedaa.Cb

theorem own : ownKnob Try.prog.godebug = none := by kernel_rfl
theorem laidOut : laidOutB Try.prog = true := by kernel_rfl

theorem xor3_get : ∀ (a b c : List UInt8) (j : Nat) (x y z : UInt8), a[j]? = some x → b[j]? = some y → c[j]? = some z → (xor3 a b c)[j]? = some (x ^^^ y ^^^ z)
  | [], _, _, j, _, _, _, h, _, _ => by simp at h
  | _ :: _, [], _, j, _, _, _, _, h, _ => by simp at h
  | _ :: _, _ :: _, [], j, _, _, _, _, _, h => by simp at h
  | p :: a, q :: b, r :: c, 0, x, y, z, h1, h2, h3 => by
    simp at h1 h2 h3
    subst h1; subst h2; subst h3
    simp [xor3]
  | p :: a, q :: b, r :: c, j + 1, x, y, z, h1, h2, h3 => by
    simp only [List.getElem?_cons_succ] at h1 h2 h3
    simp only [xor3, List.getElem?_cons_succ]
    exact xor3_get a b c j x y z h1 h2 h3
/-- The first so many bytes of X, the others of a. -/
def over (X a : List UInt8) (k : Nat) : List UInt8 := X.take k ++ a.drop k
theorem over_get (X a : List UInt8) (k i : Nat) (hk : k ≤ X.length) : (over X a k)[i]? = if i < k then X[i]? else a[i]? := by
  unfold over
  rw [List.getElem?_append, List.length_take, Nat.min_eq_left hk]
  split
  · rw [List.getElem?_take]; simp [*]
  · rw [List.getElem?_drop]; congr 1; omega
theorem over_length (X a : List UInt8) (k : Nat) (hk : k ≤ X.length) (hl : X.length = a.length) : (over X a k).length = a.length := by
  unfold over
  simp; omega
theorem over_next (X a : List UInt8) (k : Nat) (v : UInt8) (hk : k < X.length) (hl : X.length = a.length) (hv : X[k]? = some v) : (over X a k).set k v = over X a (k + 1) := by
  apply List.ext_getElem?
  intro i
  rw [List.getElem?_set, over_get _ _ _ _ (by omega), over_get _ _ _ _ (by omega), over_length _ _ _ (by omega) hl]
  by_cases h : k = i
  · subst h
    simp [hv]; omega
  · rw [if_neg h]
    by_cases h2 : i < k
    · rw [if_pos h2, if_pos (by omega)]
    · rw [if_neg h2, if_neg (by omega)]
theorem over_zero (X a : List UInt8) : over X a 0 = a := by simp [over]
theorem over_all (X a : List UInt8) (hl : X.length = a.length) : over X a a.length = X := by
  unfold over
  rw [List.take_of_length_le (by omega), List.drop_of_length_le (by omega), List.append_nil]
theorem byte_at (s : ByteArray) (k : Nat) (h : k < s.size) : s.data.toList[k]? = some (s[k]'h) := by rw [Array.getElem?_toList]; exact Array.getElem?_eq_getElem h
theorem len_of (s : ByteArray) : s.data.toList.length = s.size := by rw [Array.length_toList]; rfl
theorem xor8 (x y : UInt8) : bits .xor .u8 (x.toNat : Int) (y.toNat : Int) = ((x ^^^ y).toNat : Int) := by
  rw [u8_xor_nat _ _ (UInt8.toNat_lt x) (UInt8.toNat_lt y), UInt8.toNat_xor]

theorem keeps {w a b : World} {g n cap : Nat} {X : List UInt8} (hl : Hid (X.length = n)) (hb : Below a.heap.size a b) (h : Below w.heap.size w a) (hi : bytesIn a g 5 X) :
    bytesIn b g 5 X ∧ (convert 35 9 (.slice (some ⟨g, 0, none⟩) n cap)).run Try.prog b = .ok (.string ⟨X.toArray⟩) b ∧ Below w.heap.size w b := by
  have e := hl.out
  subst e
  exact ⟨hi.below hb, (hi.below hb).string cap Try.underlying35 Try.underlying5 Try.underlying9, grows h hb⟩
theorem keeps2 {w a b : World} {g n cap : Nat} {X : List UInt8} {r : Prop} (hl : Hid (X.length = n)) (hb : Below a.heap.size a b) (h : bytesIn a g 5 X ∧ r ∧ Below w.heap.size w a) :
    bytesIn b g 5 X ∧ (convert 35 9 (.slice (some ⟨g, 0, none⟩) n cap)).run Try.prog b = .ok (.string ⟨X.toArray⟩) b ∧ Below w.heap.size w b := keeps hl hb h.2.2 h.1

set_option maxHeartbeats 4000000 in
set_option maxRecDepth 100000 in
theorem same (a b c : ByteArray) (hs : a.size ≤ 1000) (hab : a.size = b.size) (hac : a.size = c.size) (w : World) :
    Calls Try.prog 7 #[.string a, .string b, .string c] w fun e w' => e = .returned (.bool true) ∧ Below w.heap.size w w' := by
  have hcv := run_bytes_of_string (P := Try.prog) w 9 35 5 a Try.underlying9 Try.underlying35 Try.underlying5
  generalize grownCap w a.size 0 5 = cap at hcv
  have HN := Lib.hid (bytesIn_new w a cap 5)
  generalize bytesRow a cap = C at *
  have t1 : (decide ((1000 : Int) < (a.size : Int))) = false := by simp; omega
  have t2 : ((a.size : Int) != (b.size : Int)) = false := by simp; omega
  have t3 : ((a.size : Int) != (c.size : Int)) = false := by simp; omega
  have HAB := Lib.hid hab
  have HAC := Lib.hid hac
  clear hab hac
  go_enter Try.func7, Try.ntmps7
  go_wp2
  clear hcv t1 t2 t3
  have HB0 : Hid (Below w.heap.size w (w.alloc (.cells C 5 (C.size, C.size + 1)))) := Lib.hid ((Below.refl _ _).alloc (Nat.le_refl _) _)
  obtain ⟨X, HX⟩ : ∃ X, Hid (X = xor3 a.data.toList b.data.toList c.data.toList) := ⟨_, Lib.hid rfl⟩
  have la := len_of a
  have lb := len_of b
  have lc := len_of c
  have HL : Hid (X.length = a.data.toList.length) := Lib.hid (by rw [HX.out]; exact xor3_length _ _ _ (by rw [la, lb]; exact HAB.out) (by rw [la, lc]; exact HAC.out))
  go_loopw [8] (fun i wr => ∃ k : Nat, i = .int .i64 k ∧ k ≤ a.size ∧ Hid (bytesIn wr w.heap.size 5 (over X a.data.toList k)) ∧ Below w.heap.size w wr)
    (fun i _ => (a.size - intOf i).toNat)
  case atStart => exact ⟨0, rfl, by omega, Lib.hid (by rw [over_zero]; exact HN.out.drew), HB0.out.drew⟩
  case round =>
    obtain ⟨k, rfl, hk, HI, hbel⟩ := hrel
    clear HN HB0
    have hkX : k ≤ X.length := by rw [HL.out, la]; exact hk
    by_cases hlt : k < a.size
    · have hltb : k < b.size := by rw [← HAB.out]; exact hlt
      have hltc : k < c.size := by rw [← HAC.out]; exact hlt
      obtain ⟨x, H1⟩ : ∃ x : UInt8, Hid (a[k]'hlt = x) := ⟨_, Lib.hid rfl⟩
      obtain ⟨y, hy⟩ : ∃ y : UInt8, b[k]'hltb = y := ⟨_, rfl⟩
      obtain ⟨z, hz⟩ : ∃ z : UInt8, c[k]'hltc = z := ⟨_, rfl⟩
      have hv : X[k]? = some (x ^^^ y ^^^ z) := by
        rw [HX.out]
        exact xor3_get _ _ _ k x y z (by rw [byte_at a k hlt, H1.out]) (by rw [byte_at b k hltb, hy]) (by rw [byte_at c k hltc, hz])
      have hlen : (over X a.data.toList k).length = a.size := by rw [over_length _ _ _ hkX HL.out, la]
      have hc1 : wr.cell? ⟨w.heap.size, k, none⟩ = some (.int .u8 (x.toNat : Int)) := HI.out.cell (by rw [over_get _ _ _ _ hkX, if_neg (by omega), byte_at a k hlt, H1.out])
      have hf1 : wr.frozen? ⟨w.heap.size, k, none⟩ = false := HI.out.frozen (by rw [hlen]; exact hlt)
      have HS : Hid (bytesIn (wr.setCell ⟨w.heap.size, k, none⟩ (.int .u8 ((x ^^^ y ^^^ z).toNat : Int))) w.heap.size 5 (over X a.data.toList (k + 1))) := Lib.hid (by
        rw [← over_next X a.data.toList k _ (by rw [HL.out, la]; exact hlt) HL.out hv]
        exact HI.out.store k _)
      have HBel : Hid (Below w.heap.size w (wr.setCell ⟨w.heap.size, k, none⟩ (.int .u8 ((x ^^^ y ^^^ z).toNat : Int)))) := Lib.hid (hbel.setCell (Nat.le_refl _) _)
      have x1 := xor8 x y
      have x2 := xor8 (x ^^^ y) z
      generalize x ^^^ y ^^^ z = q at *
      generalize x ^^^ y = p at *
      have i1 : (k : Int) < (a.size : Int) := by omega
      have i2 : (k : Int) < (b.size : Int) := by omega
      have i3 : (k : Int) < (c.size : Int) := by omega
      clear hv hlen hkX hbel HI la lb lc
      go_wp2_with fail
      go_region
      go_wp2
      go_roundw
      case rel => exact ⟨k + 1, by go_num, by omega, Lib.hid HS.out.drew, HBel.out.drew⟩
      case measure => simp [intOf]; omega
    · have HK : Hid (k = a.data.toList.length) := Lib.hid (by omega)
      have hX : bytesIn wr w.heap.size 5 X := by
        have h := HI.out
        rw [HK.out, over_all X _ HL.out] at h
        exact h
      have lX : X.length = a.size := by rw [HL.out, la]
      have y1 : bits .xor .u32 ((con 0 a.data.toList : Nat) : Int) ((con 0 b.data.toList : Nat) : Int) = ((con 0 a.data.toList ^^^ con 0 b.data.toList : Nat) : Int) := u32_xor_nat _ _ (on_lt _ _) (on_lt _ _)
      have y2 : bits .xor .u32 ((con 0 a.data.toList ^^^ con 0 b.data.toList : Nat) : Int) ((con 0 c.data.toList : Nat) : Int) = ((con 0 X : Nat) : Int) := by
        rw [u32_xor_nat _ _ (xor_lt (k := 32) (on_lt _ _) (on_lt _ _)) (on_lt _ _), HX.out, on_xor3 _ _ _ (by rw [la, lb]; exact HAB.out) (by rw [la, lc]; exact HAC.out)]
      have sb : b.size ≤ 9223372036854775807 := by have := HAB.out; omega
      have sc : c.size ≤ 9223372036854775807 := by have := HAC.out; omega
      have sX : (⟨X.toArray⟩ : ByteArray).size ≤ 9223372036854775807 := by show X.toArray.size ≤ _; rw [List.size_toArray, lX]; omega
      have cX : Hid (∀ w, Calls Try.prog 11 #[.string ⟨X.toArray⟩] w fun e w' => e = .returned (.int .u32 (con 0 X)) ∧ Below w.heap.size w w') := Lib.hid (fun w => by simpa using Of_any ⟨X.toArray⟩ w sX)
      have cA := Lib.hid (fun w => Of_any a w (by omega))
      have cB := Lib.hid (fun w => Of_any b w sb)
      have cC := Lib.hid (fun w => Of_any c w sc)
      have HLX := Lib.hid lX
      have i1 : ¬ (k : Int) < (a.size : Int) := by omega
      have h0 := keeps (g := w.heap.size) (cap := cap) (Lib.hid lX) (Below.refl _ wr) hbel hX
      clear la lb lc lX hX HI sb sc sX
      go_wp2_with fail
      go_region_held3 (fun w' => bytesIn w' w.heap.size 5 X ∧ (convert 35 9 (.slice (some ⟨w.heap.size, 0, none⟩) a.size cap)).run Try.prog w' = .ok (.string ⟨X.toArray⟩) w' ∧ Below w.heap.size w w')
        (first | exact keeps HLX (Below.refl _ wr).drew h0.2.2 h0.1 | assumption | (apply keeps2; exact HLX; assumption; assumption))
        (first | (go_at_call 11; first | (refine (cA.out _).mono ?_; rintro e w' ⟨rfl, hb⟩) | (refine (cB.out _).mono ?_; rintro e w' ⟨rfl, hb⟩) | (refine (cC.out _).mono ?_; rintro e w' ⟨rfl, hb⟩) | (refine (cX.out _).mono ?_; rintro e w' ⟨rfl, hb⟩)) | (go_at_call 8; refine (known_any _).mono ?_; rintro e w' ⟨rfl, hb⟩))
      have hB := (show _ ∧ _ ∧ Below w.heap.size w _ by assumption).2.2
      go_wp2
      go_ret
      exact ⟨rfl, hB⟩

set_option maxRecDepth 100000 in
theorem walk (a b c : ByteArray) (_ : a.size ≤ maxLen) (_ : b.size ≤ maxLen) (_ : c.size ≤ maxLen) (w : World) :
    Calls Try.prog 7 #[.string a, .string b, .string c] w fun e w' => e = .returned (.bool true) ∧ Below w.heap.size w w' := by
  by_cases hs : 1000 < a.size
  · have t1 : (decide ((1000 : Int) < (a.size : Int))) = true := by simp; omega
    go_enter Try.func7, Try.ntmps7
    go_wp2_with (go_at_call 8; refine (known_any _).mono ?_; rintro e w' ⟨rfl, hb⟩)
    go_ret
    exact ⟨rfl, hb⟩
  · by_cases hab : a.size = b.size
    · by_cases hac : a.size = c.size
      · exact same a b c (by omega) hab hac w
      · have t1 : (decide ((1000 : Int) < (a.size : Int))) = false := by simp; omega
        have t2 : ((a.size : Int) != (b.size : Int)) = false := by simp; omega
        have t3 : ((a.size : Int) != (c.size : Int)) = true := by simp; omega
        clear hab
        go_enter Try.func7, Try.ntmps7
        go_wp2_with (go_at_call 8; refine (known_any _).mono ?_; rintro e w' ⟨rfl, hb⟩)
        go_ret
        exact ⟨rfl, hb⟩
    · have t1 : (decide ((1000 : Int) < (a.size : Int))) = false := by simp; omega
      have t2 : ((a.size : Int) != (b.size : Int)) = true := by simp; omega
      go_enter Try.func7, Try.ntmps7
      go_wp2_with (go_at_call 8; refine (known_any _).mono ?_; rintro e w' ⟨rfl, hb⟩)
      go_ret
      exact ⟨rfl, hb⟩

set_option maxRecDepth 100000 in
theorem lifted (os : Os) (started : os.Started) (H : Type) (enc : TypeId × Value → H) :
    ReturnsInHanded {} Try.checked os 7 .any (Rows.crcLinearSpec.pre6 enc Try.prog Try.f7 Rows.crcLinearRow.domain false) (Rows.crcLinearSpec.post enc Try.prog Try.f7 false true false false) := by
  refine returnsInHanded_of_change (C := Try.checked) own started (by kernel_rfl) Try.func7
    (ChangeSpec.witness6 (enc := enc) (C := Try.checked) false ⟨#[], #[.string ByteArray.empty, .string ByteArray.empty, .string ByteArray.empty], []⟩ 8 (by kernel_rfl) (by kernel_rfl) (by kernel_rfl) (by kernel_rfl)) ?_
  intro W base args ds gs before hval0 hW _ _
  have hval : ∀ (j : Nat) t v, Try.f7.params[j]? = some t → args[j]? = some v → Value.okWide Try.prog W .any base t v := hval0
  have hW' := hW
  obtain ⟨p, q, hA0, hV, rfl, hfz, hnd⟩ := hW
  have hA : DataW.TrodAll enc Try.prog W 0 (fun _ => true) true Try.f7.params.toList args.toList ds p := hA0
  rw [Try.params7] at hA hval
  obtain ⟨v0, vs0, d0, ds0, p0, q0, hargs, rfl, rfl, h0, r0⟩ := trodAll_cons hA
  obtain ⟨v1, vs1, d1, ds1, p1, q1, rfl, rfl, rfl, h1, r1⟩ := trodAll_cons r0
  obtain ⟨v2, vs2, d2, ds2, p2, q2, rfl, rfl, rfl, h2, r2⟩ := trodAll_cons r1
  obtain ⟨rfl, rfl, rfl⟩ := trodAll_nil r2
  obtain rfl : args = #[v0, v1, v2] := by cases args; simp_all
  obtain ⟨rfl, rfl⟩ := trodVars_none hV
  obtain ⟨a0, rfl, rfl, rfl, w0⟩ := open_string Try.underlying9 (hval 0 9 v0 rfl rfl) h0
  obtain ⟨a1, rfl, rfl, rfl, w1⟩ := open_string Try.underlying9 (hval 1 9 v1 rfl rfl) h1
  obtain ⟨a2, rfl, rfl, rfl, w2⟩ := open_string Try.underlying9 (hval 2 9 v2 rfl rfl) h2
  refine (walk a0 a1 a2 w0 w1 w2 W).mono fun e W' ⟨he, hb⟩ => ?_
  subst he
  exact ⟨_, rfl, law_post (P := Try.prog) (f := Try.f7) laidOut (by kernel_rfl) (by kernel_rfl) Try.underlying4 rfl hW' rfl hb⟩

theorem proved : Rows.CrcLinearSaid :=
  OpenClaim.holds_of_wide 7 Try.f7 rfl rfl rfl rfl rfl rfl rfl ⟨rfl, rfl, rfl, rfl, rfl⟩ rfl rfl rfl rfl rfl (by kernel_rfl) Try.func7 (by kernel_rfl)
    (of_decide_eq_true (by kernel_rfl)) (by unfold Func.isWrapper; first | (rw [if_pos (by decide +kernel)]; kernel_rfl) | (rw [if_neg (by decide +kernel)]; exact ⟨rfl, rfl⟩))
    (fun os started H enc _ => lifted os started H enc)
#print axioms proved
end Go.Proofs.Ytfmpmjbgimeedaa.crcLinear
