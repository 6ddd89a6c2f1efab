/-
  The reference's small functions of layer 12, called with any values: has, bare, num, ended.
  Conditions: as each theorem says.
-/
import Derived.Test.YtgilfjojimgpaaaQd
import Derived.Test.YtgilfjojimgpaaaVy
import Derived.Test.YtgilfjojimgpaaaVx
namespace Go.Proofs.Ytgilfjojimgpaaa.Qe
open Go.RowKit Go.Proofs.Ytgilfjojimgpaaa.Vm Go.Proofs.Ytgilfjojimgpaaa.Vo Go.Proofs.Ytgilfjojimgpaaa.Vf Go.Proofs.Ytgilfjojimgpaaa.Bw Go.Proofs.Ytgilfjojimgpaaa.Qm Go.Proofs.Ytgilfjojimgpaaa.Qa Go.Proofs.Ytgilfjojimgpaaa.Qb Go.Proofs.Ytgilfjojimgpaaa.Qc Go.Proofs.Ytgilfjojimgpaaa.Qd

def hsF (f k : Int) : Bool := decide (f / k % 2 = 1)
theorem has_any (f k : Int) (w : World) (h0 : 0 ≤ f) (h1 : f ≤ 9223372036854775807) (hk : k = 1 ∨ k = 2 ∨ k = 4 ∨ k = 8 ∨ k = 16) : Calls Try.prog 20 #[.int .i64 f, .int .i64 k] w fun e w' => e = .returned (.bool (hsF f k)) ∧ w = w' := by
  obtain ⟨F, rfl⟩ := Int.eq_ofNat_of_zero_le h0
  rcases hk with rfl | rfl | rfl | rfl | rfl
  all_goals
    go_enter Try.func20, Try.ntmps20
    go_wp2
    go_ret
    refine ⟨ret_bool ?_, rfl⟩
    unfold hsF
    rw [Bool.eq_iff_iff]
    simp only [decide_eq_true_eq, beq_iff_eq] <;> rw [Int.ediv_one]
theorem num_fx (n k : Int) (w : World) (h : okF n k) : Calls Try.prog 19 #[.int .i64 n, .int .i64 k] w fun e w' => e = .returned (.string (fx n k)) ∧ Below w.heap.size w w' := by
  obtain ⟨hk, h2, hn⟩ := h
  have hb : n ≤ 9223372036854775807 := by rcases hk with rfl | rfl | rfl <;> simp at hn <;> omega
  have H := Lib.hid (show (fixR n k).1 = le k.toNat n.toNat by
    have hw : Vw.wid k = true := by rcases hk with rfl | rfl | rfl <;> rfl
    have hd : n.toNat / 256 ^ k.toNat = 0 := Nat.div_eq_of_lt hn
    have h0 : ¬ n < 0 := by omega
    simp [fixR, hw, hd, h0])
  have hF := Lib.hid (Vy.rFixed_any n k w (by omega))
  generalize fixR n k = R at *
  clear hk hn hb
  go_enter Try.func19, Try.ntmps19
  go_wp2_with (go_at_call 36; refine hF.out.mono ?_; rintro e w' ⟨rfl, hb⟩)
  go_ret
  exact ⟨ret_str (by rw [H.out]; rfl), hb⟩
theorem bare_any (s : ByteArray) (w : World) (hs : s.size ≤ 9223372036854775807) : Calls Try.prog 25 #[.string s] w fun e w' => e = .returned (.bool (!hasE s)) ∧ w = w' := by
  go_enter Try.func25, Try.ntmps25
  go_wp2
  go_loopw [3] (fun i wr => ∃ k : Nat, i = .int .i64 k ∧ k ≤ s.size ∧ Hid ((0 : UInt8) ∉ s.data.toList.take k) ∧ wr = w)
    (fun i _ => (s.size - intOf i).toNat)
  case atStart => exact ⟨0, rfl, by omega, Lib.hid (by simp), rfl⟩
  case round =>
    obtain ⟨k, rfl, hk, HK, rfl⟩ := hrel
    by_cases h8 : k < s.size
    · obtain ⟨x, hx, HX⟩ : ∃ x : UInt8, s[k]'h8 = x ∧ Hid (s[k]'h8 = x) := ⟨_, rfl, Lib.hid rfl⟩
      have HT : Hid (s.data.toList.take (k + 1) = s.data.toList.take k ++ [x]) := Lib.hid (by rw [Co.take_next s k h8, HX.out])
      by_cases h0 : x = 0
      · have HE := Lib.hid (show hasE s = true by
          unfold hasE
          refine decide_eq_true (List.mem_of_mem_take (i := k + 1) ?_)
          rw [HT.out, h0]; simp)
        subst h0
        go_wp2
        go_ret
        exact ⟨ret_bool (by rw [HE.out]; rfl), rfl⟩
      · have hne : ((x.toNat : Int) == 0) = false := by
          have : x.toNat ≠ 0 := fun e => h0 (UInt8.toNat_inj.1 e)
          simpa using this
        have HN := Lib.hid h0
        clear h0
        go_wp2
        go_roundw
        case rel => exact ⟨k + 1, by go_num, by omega, Lib.hid (by rw [HT.out]; intro hm; rcases List.mem_append.1 hm with h | h; exact HK.out h; exact HN.out (List.mem_singleton.1 h).symm), trivial⟩
        case measure => simp [intOf]; omega
    · have HE := Lib.hid (show hasE s = false by
        unfold hasE
        have := HK.out
        rw [show k = s.size by omega, Co.take_all] at this
        exact decide_eq_false this)
      go_wp2
      go_ret
      exact ⟨ret_bool (by rw [HE.out]; rfl), rfl⟩

/-- What ended answers. -/
def endA (l : List UInt8) (a : Nat) (x : ByteArray) (z : Int) : Prop := (endQ l = none ∧ x = ⟨#[]⟩ ∧ z = -1) ∨ ∃ t r, endQ l = some (t, r) ∧ x.data.toList = t ∧ z = ((a + t.length + 1 : Nat) : Int)
theorem ext_list (s : ByteArray) (a b : Nat) : (s.extract a b).data.toList = (s.data.toList.drop a).take (b - a) := by
  rw [ByteArray.data_extract, Array.toList_extract, List.extract_eq_take_drop]
theorem drop_at (s : ByteArray) {k : Nat} (h : k < s.size) : s.data.toList.drop k = s[k]'h :: s.data.toList.drop (k + 1) := by
  have hl : k < s.data.toList.length := by rw [Array.length_toList]; exact h
  rw [List.drop_eq_getElem_cons hl]
  rfl
theorem take_at (s : ByteArray) {a k : Nat} (ha : a ≤ k) (h : k < s.size) : (s.data.toList.drop a).take (k + 1 - a) = (s.data.toList.drop a).take (k - a) ++ [s[k]'h] := by
  have hl : k - a < (s.data.toList.drop a).length := by rw [List.length_drop, Array.length_toList]; have : k < s.data.size := h; omega
  rw [show k + 1 - a = k - a + 1 by omega, List.take_succ_eq_append_getElem hl]
  congr 1
  simp only [List.getElem_drop]
  congr 1
  have : s.data.toList[a + (k - a)]'(by rw [Array.length_toList]; have : k < s.data.size := h; omega) = s.data.toList[k]'(by rw [Array.length_toList]; exact h) := by congr 1; omega
  rw [this]; rfl
theorem ended_any (s : ByteArray) (a : Nat) (w : World) (hs : s.size ≤ 9223372036854775806) (ha : a ≤ s.size) : Calls Try.prog 33 #[.string s, .int .i64 a] w fun e w' => (∃ x z, e = .returned (.tuple #[.string x, .int .i64 z]) ∧ endA (s.data.toList.drop a) a x z) ∧ w = w' := by
  go_enter Try.func33, Try.ntmps33
  go_wp2
  go_loopw [6] (fun i wr => ∃ k : Nat, i = .int .i64 k ∧ a ≤ k ∧ k ≤ s.size ∧ Hid (endQ (s.data.toList.drop a) = (endQ (s.data.toList.drop k)).map (fun p => ((s.data.toList.drop a).take (k - a) ++ p.1, p.2))) ∧ wr = w)
    (fun i _ => (s.size - intOf i).toNat)
  case atStart => exact ⟨a, rfl, by omega, ha, Lib.hid (by cases endQ (s.data.toList.drop a) <;> simp), rfl⟩
  case round =>
    obtain ⟨k, rfl, hak, hk, HK, rfl⟩ := hrel
    by_cases h8 : k < s.size
    · obtain ⟨x, hx, HX⟩ : ∃ x : UInt8, s[k]'h8 = x ∧ Hid (s[k]'h8 = x) := ⟨_, rfl, Lib.hid rfl⟩
      have HD : Hid (s.data.toList.drop k = x :: s.data.toList.drop (k + 1)) := Lib.hid (by rw [drop_at s h8, HX.out])
      have HT : Hid ((s.data.toList.drop a).take (k + 1 - a) = (s.data.toList.drop a).take (k - a) ++ [x]) := Lib.hid (by rw [take_at s hak h8, HX.out])
      by_cases h0 : x = 0
      · subst h0
        have HE : Hid (endA (s.data.toList.drop a) a (s.extract a k) ((k + 1 : Nat) : Int)) := Lib.hid (.inr ⟨(s.data.toList.drop a).take (k - a), s.data.toList.drop (k + 1), by rw [HK.out, HD.out]; simp [endQ], ext_list s a k, by
          have : ((s.data.toList.drop a).take (k - a)).length = k - a := by rw [List.length_take, List.length_drop, Array.length_toList]; have : k < s.data.size := h8; omega
          rw [this]; omega⟩)
        go_wp2
        go_ret2
        exact ⟨⟨_, _, rfl, by simpa using HE.out⟩, rfl⟩
      · have hne : ((x.toNat : Int) == 0) = false := by
          have : x.toNat ≠ 0 := fun e => h0 (UInt8.toNat_inj.1 e)
          simpa using this
        have HN := Lib.hid h0
        clear h0
        go_wp2
        go_roundw
        case rel => exact ⟨k + 1, by go_num, by omega, by omega, Lib.hid (by
          rw [HK.out, HD.out, HT.out]
          show ((if x = 0 then some ([], s.data.toList.drop (k + 1)) else (endQ (s.data.toList.drop (k + 1))).map (fun p => (x :: p.1, p.2))) : Option (List UInt8 × List UInt8)).map _ = _
          rw [if_neg HN.out]
          cases endQ (s.data.toList.drop (k + 1)) <;> simp), trivial⟩
        case measure => simp [intOf]; omega
    · have HE : Hid (endA (s.data.toList.drop a) a ⟨#[]⟩ (-1)) := Lib.hid (.inl ⟨by
        rw [HK.out, show s.data.toList.drop k = [] from List.drop_of_length_le (by rw [Array.length_toList]; have : ¬ k < s.data.size := h8; omega)]; rfl, rfl, rfl⟩)
      go_wp2
      go_ret2
      exact ⟨⟨_, _, rfl, HE.out⟩, rfl⟩
end Go.Proofs.Ytgilfjojimgpaaa.Qe
