/-
  The reference's Masked, Byte, Show.
  Conditions: as each theorem says.
-/
import Derived.Test.YtdbeohfaaonbjaaTn
namespace Go.Proofs.Ytdbeohfaaonbjaa.To
open Go.RowKit Go.PlainAid Go.Proofs.Ytdbeohfaaonbjaa.Vm Go.Proofs.Ytdbeohfaaonbjaa.Vo Go.Proofs.Ytdbeohfaaonbjaa.Bw Go.Proofs.Ytdbeohfaaonbjaa.Ba Go.Proofs.Ytdbeohfaaonbjaa.Na Go.Proofs.Ytdbeohfaaonbjaa.Tm Go.Proofs.Ytdbeohfaaonbjaa.Ts Go.Proofs.Ytdbeohfaaonbjaa.Ta Go.Proofs.Ytdbeohfaaonbjaa.Tb Go.Proofs.Ytdbeohfaaonbjaa.Tc Go.Proofs.Ytdbeohfaaonbjaa.Td Go.Proofs.Ytdbeohfaaonbjaa.Te Go.Proofs.Ytdbeohfaaonbjaa.Tf Go.Proofs.Ytdbeohfaaonbjaa.Tj Go.Proofs.Ytdbeohfaaonbjaa.Tg Go.Proofs.Ytdbeohfaaonbjaa.Th Go.Proofs.Ytdbeohfaaonbjaa.Ti Go.Proofs.Ytdbeohfaaonbjaa.Tn

theorem mask_nl : nl ⟨#[92, 91, 93, 40, 41, 123, 125, 42, 43, 63, 124, 46, 45, 94, 47, 34]⟩ = maskL := by decide
set_option maxHeartbeats 1000000 in
set_option maxRecDepth 100000 in
theorem rMasked_any (c : Nat) (w : World) :
    Calls Try.prog 35 #[.int .u8 c] w fun e w' => e = .returned (.bool (decide (c ∈ maskL))) ∧ w = w' := by
  obtain ⟨s, hs⟩ : ∃ s : ByteArray, s = ⟨#[92, 91, 93, 40, 41, 123, 125, 42, 43, 63, 124, 46, 45, 94, 47, 34]⟩ := ⟨_, rfl⟩
  have HNL : Hid (nl s = maskL) := Lib.hid (by rw [hs]; exact mask_nl)
  have hsz : s.size = 16 := by rw [hs]; rfl
  obtain ⟨R, hR⟩ : ∃ R, R = decide (c ∈ maskL) := ⟨_, rfl⟩
  have HR := Lib.hid hR
  rw [← hR]
  have HS := Lib.hid hs
  clear hR hs
  go_enter Try.func35, Try.ntmps35
  go_wp2
  rw [← HS.out]
  go_loopw [4] (fun i wr => ∃ k : Nat, i = .int .i64 (k : Int) ∧ k ≤ 16 ∧ Hid (c ∉ maskL.take k) ∧ wr = w)
    (fun i _ => 16 - (intOf i).toNat)
  case atStart => exact ⟨0, rfl, by omega, Lib.hid (by simp), rfl⟩
  case round =>
    obtain ⟨k, rfl, hk, HN, rfl⟩ := hrel
    by_cases h8 : k < s.size
    · obtain ⟨x, hx⟩ : ∃ x, (nl s)[k]? = some x := ⟨_, List.getElem?_eq_getElem (by rw [nl_len]; omega)⟩
      obtain ⟨_, b0, l0⟩ := nl_get hx
      rw [HNL.out] at hx
      have hb := get_bt s
      have k0 : (0 : Int) ≤ (k : Int) := by omega
      have k1 : (k : Int) < (s.size : Int) := by omega
      by_cases hxc : x = c
      · subst hxc
        have HE : Hid (R = true) := Lib.hid (by rw [HR.out]; exact decide_eq_true (List.mem_of_getElem? hx))
        clear hx
        go_wp2
        go_ret
        exact ⟨ret_bool HE.out.symm, rfl⟩
      · have HN2 : Hid (c ∉ maskL.take (k + 1)) := Lib.hid (by
          rw [List.take_add_one, hx]
          simp only [Option.toList_some, List.mem_append, List.mem_singleton]
          rintro (h | h)
          · exact HN.out h
          · exact hxc h.symm)
        have hne : ((x : Int) == (c : Int)) = false := by rw [beq_eq_false_iff_ne]; omega
        clear hx hxc
        go_wp2
        go_roundw
        case rel => exact ⟨k + 1, by go_num, by omega, HN2, trivial⟩
        case measure => simp [intOf]; omega
    · have HE : Hid (R = false) := Lib.hid (by
        rw [HR.out]
        have := HN.out
        rw [List.take_of_length_le (by have : maskL.length = 16 := rfl; omega)] at this
        exact decide_eq_false this)
      have hlt : ¬ ((k : Int) < (s.size : Int)) := by omega
      clear hk h8
      go_wp2
      go_ret
      exact ⟨ret_bool HE.out.symm, rfl⟩

theorem nota_size (c : Nat) : (⟨(nota c).toArray⟩ : ByteArray).size ≤ 4 := (nota_len c).2
set_option maxHeartbeats 1000000 in
set_option maxRecDepth 100000 in
theorem rByte_any {c : Nat} (hc : c < 256) (w : World) :
    Calls Try.prog 31 #[.int .u8 c] w fun e w' => e = .returned (.string ⟨(nota c).toArray⟩) ∧ Below w.heap.size w w' := by
  by_cases h10 : c = 10
  · subst h10
    have HN : Hid (nota 10 = [92, 110]) := Lib.hid (by decide)
    rw [HN.out]
    go_enter Try.func31, Try.ntmps31
    go_wp2
    go_ret
    exact ⟨rfl, Below.refl _ _⟩
  by_cases h9 : c = 9
  · subst h9
    have HN : Hid (nota 9 = [92, 116]) := Lib.hid (by decide)
    rw [HN.out]
    go_enter Try.func31, Try.ntmps31
    go_wp2
    go_ret
    exact ⟨rfl, Below.refl _ _⟩
  by_cases h32 : c = 32
  · subst h32
    have HN : Hid (nota 32 = [92, 115]) := Lib.hid (by decide)
    rw [HN.out]
    go_enter Try.func31, Try.ntmps31
    go_wp2
    go_ret
    exact ⟨rfl, Below.refl _ _⟩
  have d10 : ((c : Int) == 10) = false := by simp; omega
  have d9 : ((c : Int) == 9) = false := by simp; omega
  have d32 : ((c : Int) == 32) = false := by simp; omega
  have HM := Lib.hid (fun w => rMasked_any c w)
  by_cases hm : c ∈ maskL
  · have HN : Hid (nota c = [92, UInt8.ofNat c]) := Lib.hid (by unfold nota; rw [if_neg h10, if_neg h9, if_neg h32, if_pos hm])
    rw [HN.out]
    rw [decide_eq_true hm] at HM
    have HC : Hid (#[Value.int .u8 (c : Int)] = (Bs [UInt8.ofNat c]).toArray) := Lib.hid (by rw [byte_val hc]; rfl)
    have hcv := ob_string (show ob w.heap.size (w.alloc (.cells #[Value.int .u8 (c : Int)] 5)) (.slice (some ⟨w.heap.size, 0, none⟩) 1 1) [UInt8.ofNat c] by rw [HC.out]; exact ob_lit (c := [UInt8.ofNat c]) (by simp) (Nat.le_refl _))
    clear h10 h9 h32 hm hc
    go_enter Try.func31, Try.ntmps31
    go_wp2_with (go_at_call 35; refine (HM.out _).mono ?_; rintro e w1 ⟨rfl, rfl⟩)
    go_ret
    exact ⟨ret_str rfl, below_alloc _ _⟩
  · have HD := HM
    rw [decide_eq_false hm] at HM
    clear HD
    by_cases hr : 32 < c ∧ c < 127
    · have HN : Hid (nota c = [UInt8.ofNat c]) := Lib.hid (by unfold nota; rw [if_neg h10, if_neg h9, if_neg h32, if_neg hm, if_pos hr])
      rw [HN.out]
      have HC : Hid (#[Value.int .u8 (c : Int)] = (Bs [UInt8.ofNat c]).toArray) := Lib.hid (by rw [byte_val hc]; rfl)
      have hcv := ob_string (show ob w.heap.size (w.alloc (.cells #[Value.int .u8 (c : Int)] 5)) (.slice (some ⟨w.heap.size, 0, none⟩) 1 1) [UInt8.ofNat c] by rw [HC.out]; exact ob_lit (c := [UInt8.ofNat c]) (by simp) (Nat.le_refl _))
      have r1 : (32 : Int) < (c : Int) := by omega
      have r2 : (c : Int) < 127 := by omega
      clear h10 h9 h32 hm hc hr
      go_enter Try.func31, Try.ntmps31
      go_wp2_with (go_at_call 35; refine (HM.out _).mono ?_; rintro e w1 ⟨rfl, rfl⟩)
      go_ret
      exact ⟨ret_str rfl, below_alloc _ _⟩
    · have HN : Hid (nota c = [92, 120, hexd (c / 16), hexd (c % 16)]) := Lib.hid (by unfold nota; rw [if_neg h10, if_neg h9, if_neg h32, if_neg hm, if_neg hr])
      rw [HN.out]
      obtain ⟨q, hq⟩ : ∃ q, q = c / 16 := ⟨_, rfl⟩
      obtain ⟨r, hrr⟩ : ∃ r, r = c % 16 := ⟨_, rfl⟩
      have hq16 : q < 16 := by omega
      have hr16 : r < 16 := by omega
      have e1 : (c : Int) / 16 = (q : Int) := by omega
      have e2 : (c : Int) % 16 = (r : Int) := by omega
      have e2' : (c : Int).tmod 16 = (r : Int) := by rw [Int.tmod_eq_emod_of_nonneg (by omega)]; exact e2
      have f1 : (q : Int) < 16 := by omega
      have f2 : (r : Int) < 16 := by omega
      rw [← hq, ← hrr]
      have x1 : bt ⟨#[48, 49, 50, 51, 52, 53, 54, 55, 56, 57, 97, 98, 99, 100, 101, 102]⟩ q = ((hexd q).toNat : Int) := bt_hex q hq16
      have x2 : bt ⟨#[48, 49, 50, 51, 52, 53, 54, 55, 56, 57, 97, 98, 99, 100, 101, 102]⟩ r = ((hexd r).toNat : Int) := bt_hex r hr16
      have y1 : IntKind.u8.wrap (q : Int) = (q : Int) := by rw [IntKind.wrap_u8']; omega
      have y2 : IntKind.u8.wrap (r : Int) = (r : Int) := by rw [IntKind.wrap_u8']; omega
      generalize hexd q = u1 at *
      generalize hexd r = u2 at *
      have hb := get_bt ⟨#[48, 49, 50, 51, 52, 53, 54, 55, 56, 57, 97, 98, 99, 100, 101, 102]⟩
      have hcv0 := ob_string (show ob w.heap.size (w.alloc (.cells #[Value.int .u8 (u1.toNat : Int), Value.int .u8 (u2.toNat : Int)] 5)) (.slice (some ⟨w.heap.size, 0, none⟩) 2 2) [u1, u2] from ob_lit (c := [u1, u2]) (by simp) (Nat.le_refl _))
      have hcv : (convert 41 9 (.slice (some ⟨w.heap.size, 0, none⟩) 2 2)).run Try.prog (w.alloc (.cells #[Value.int .u8 (u1.toNat : Int), Value.int .u8 (u2.toNat : Int)] 5)).drew = .ok (.string ⟨#[u1, u2]⟩) (w.alloc (.cells #[Value.int .u8 (u1.toNat : Int), Value.int .u8 (u2.toNat : Int)] 5)).drew :=
        ob_string (show ob w.heap.size (w.alloc (.cells #[Value.int .u8 (u1.toNat : Int), Value.int .u8 (u2.toNat : Int)] 5)).drew (.slice (some ⟨w.heap.size, 0, none⟩) 2 2) [u1, u2] from ob_lit (w := w) (c := [u1, u2]) (by simp) (Nat.le_refl _))
      have HB : Hid (Below w.heap.size w (w.alloc (.cells #[Value.int .u8 (u1.toNat : Int), Value.int .u8 (u2.toNat : Int)] 5)).drew) := Lib.hid (below_drew (below_alloc _ _))
      have h3 : c < 32 ∨ 126 < c := by omega
      clear hcv0 hr h10 h9 h32 hm hc hq hrr
      rcases h3 with h3 | h3
      · have h3' : ¬ ((32 : Int) < (c : Int)) := by omega
        clear h3
        go_enter Try.func31, Try.ntmps31
        go_wp2_with (go_at_call 35; refine (HM.out _).mono ?_; rintro e w1 ⟨rfl, rfl⟩)
        go_region
        all_goals go_wp2
        all_goals go_ret
        all_goals exact ⟨ret_str rfl, HB.out⟩
      · have h3' : (32 : Int) < (c : Int) := by omega
        have h4' : ¬ ((c : Int) < 127) := by omega
        clear h3
        go_enter Try.func31, Try.ntmps31
        go_wp2_with (go_at_call 35; refine (HM.out _).mono ?_; rintro e w1 ⟨rfl, rfl⟩)
        go_region
        all_goals go_wp2
        all_goals go_ret
        all_goals exact ⟨ret_str rfl, HB.out⟩
end Go.Proofs.Ytdbeohfaaonbjaa.To
