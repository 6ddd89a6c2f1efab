/-
  A checksum that goes on by a string: On, Of, and the document's own functions beside them.
  Conditions: none but the ones that each theorem names.
-/
import Derived.Test.YtgilfjojimgpaaaCt
namespace Go.Proofs.Ytgilfjojimgpaaa.Co
open Go.RowKit Go.Proofs.Ytgilfjojimgpaaa.Cm Go.Proofs.Ytgilfjojimgpaaa.Ce Go.Proofs.Ytgilfjojimgpaaa.Ct Go.PlainAid

theorem take_next (s : ByteArray) (k : Nat) (h : k < s.size) : s.data.toList.take (k + 1) = s.data.toList.take k ++ [s[k]'h] := by
  have e : s.data.toList[k]? = some (s[k]'h) := by rw [Array.getElem?_toList]; exact Array.getElem?_eq_getElem h
  rw [List.take_add_one, e]; rfl
theorem take_all (s : ByteArray) : s.data.toList.take s.size = s.data.toList := List.take_of_length_le (by rw [Array.length_toList]; exact Nat.le_refl _)

/-- All bits turned, as the program says it. -/
theorem invx (c : Nat) (hc : c < 4294967296) : bits .xor .u32 IntKind.u32.max (c : Int) = ((cinv c : Nat) : Int) := by
  have h := u32_xor_nat 4294967295 c (by omega) hc
  rw [Nat.xor_comm, ← inv_xor hc] at h
  exact h

set_option maxRecDepth 100000 in
theorem On_any (c : Nat) (hc : c < 4294967296) (s : ByteArray) (w : World) (hs : s.size ≤ 9223372036854775807) :
    Calls Try.prog 44 #[.int .u32 c, .string s] w fun e w' => e = .returned (.int .u32 (con c s.data.toList)) ∧ Below w.heap.size w w' := by
  obtain ⟨hz, hsz⟩ := zero_of_info info27
  rw [← tabTo_zero] at hz
  have HZ := Lib.hid hsz
  clear hsz
  have x0 := invx c hc
  go_enter Try.func44, Try.ntmps44
  go_wp2_with fail
  refine (Table_any _).mono ?_
  rintro e w1 ⟨rfl, b1⟩
  go_wp2_with (refine wpList_store_row rfl 66 _ _ rfl w1.heap.size (tabTo 256) rfl rfl _ _ (heap_alloc_last w1 _) (by rw [tabTo_size]; exact HZ.out) (by rw [tabTo_size, tabTo_size]) (tabTo_one 256) ?_; rw [World.setRow_alloc_new])
  clear hz x0
  have HC : Hid (∀ j, j < 256 → (w1.alloc (.cells (tabTo 256) 66)).cell? ⟨w1.heap.size, j, none⟩ = some (.int .u32 (entry j))) := Lib.hid (fun j hj => by rw [cell_of_row _ _ _ _ _ _ (heap_alloc_last w1 _)]; exact tabTo_get j hj)
  have hb2 : Below w.heap.size w (w1.alloc (.cells (tabTo 256) 66)) := b1.alloc b1.size _
  generalize w1.alloc (.cells (tabTo 256) 66) = w2 at *
  clear b1
  go_loopw [13, 6] (fun i v wr => ∃ (k n : Nat), i = .int .i64 k ∧ v = .int .u32 n ∧ k ≤ s.size ∧ n < 4294967296 ∧ Hid (n = crun (cinv c) (s.data.toList.take k)) ∧ wr = w2)
    (fun i _ _ => (s.size - intOf i).toNat)
  case atStart => exact ⟨0, cinv c, rfl, rfl, by omega, inv_lt c, Lib.hid (by simp [crun]), rfl⟩
  case round =>
    obtain ⟨k, n, rfl, rfl, hk, hn, HN, rfl⟩ := hrel
    by_cases h8 : k < s.size
    · obtain ⟨x, hx, HX⟩ : ∃ x : UInt8, s[k]'h8 = x ∧ Hid (s[k]'h8 = x) := ⟨_, rfl, Lib.hid rfl⟩
      have hx256 : x.toNat < 256 := UInt8.toNat_lt x
      have m1 := mix8 n x.toNat hx256
      have m2 := mixE n x.toNat hn hx256
      have m3 := mix_lt (c := n) hx256
      have m4 := byteN_lt hn hx256
      have hcell := HC.out _ m3
      have HS : Hid (byteN n x.toNat = crun (cinv c) (s.data.toList.take (k + 1))) := Lib.hid (by rw [take_next s k h8, run_snoc, ← HN.out, HX.out])
      generalize (n % 256 ^^^ x.toNat) = j at *
      go_wp2
      go_roundw
      case rel => exact ⟨k + 1, byteN n x.toNat, by go_num, by go_num, by omega, m4, HS, trivial⟩
      case measure => simp [intOf]; omega
    · have HK := Lib.hid (show k = s.size by omega)
      have x1 := invx n hn
      go_wp2
      go_ret
      exact ⟨ret_u32 (by rw [HN.out, HK.out, take_all]; rfl), hb2⟩

theorem Of_any (s : ByteArray) (w : World) (hs : s.size ≤ 9223372036854775807) :
    Calls Try.prog 35 #[.string s] w fun e w' => e = .returned (.int .u32 (con 0 s.data.toList)) ∧ Below w.heap.size w w' := by
  go_enter Try.func35, Try.ntmps35
  go_wp2_with fail
  refine (On_any 0 (by omega) s _ hs).mono ?_
  rintro e w1 ⟨rfl, b1⟩
  go_wp2
  go_ret
  exact ⟨rfl, b1⟩

set_option maxRecDepth 100000 in
theorem rOn_any (c : Nat) (hc : c < 4294967296) (s : ByteArray) (w : World) (hs : s.size ≤ 9223372036854775807) :
    Calls Try.prog 37 #[.int .u32 c, .string s] w fun e w' => e = .returned (.int .u32 (con c s.data.toList)) ∧ w = w' := by
  have x0 := invx c hc
  go_enter Try.func37, Try.ntmps37
  go_wp2
  clear x0
  go_loopw [5, 0] (fun i v wr => ∃ (k n : Nat), i = .int .i64 k ∧ v = .int .u32 n ∧ k ≤ s.size ∧ n < 4294967296 ∧ Hid (n = crun (cinv c) (s.data.toList.take k)) ∧ wr = w)
    (fun i _ _ => (s.size - intOf i).toNat)
  case atStart => exact ⟨0, cinv c, rfl, rfl, by omega, inv_lt c, Lib.hid (by simp [crun]), rfl⟩
  case round =>
    obtain ⟨k, n, rfl, rfl, hk, hn, HN, rfl⟩ := hrel
    by_cases h8 : k < s.size
    · obtain ⟨x, hx, HX⟩ : ∃ x : UInt8, s[k]'h8 = x ∧ Hid (s[k]'h8 = x) := ⟨_, rfl, Lib.hid rfl⟩
      have hx256 : x.toNat < 256 := UInt8.toNat_lt x
      have m4 := byteN_lt hn hx256
      have HS : Hid (byteN n x.toNat = crun (cinv c) (s.data.toList.take (k + 1))) := Lib.hid (by rw [take_next s k h8, run_snoc, ← HN.out, HX.out])
      go_wp2_with fail
      refine (rByte_any n x.toNat hn hx256 _).mono ?_
      rintro e w' ⟨rfl, rfl⟩
      go_wp2
      go_roundw
      case rel => exact ⟨k + 1, byteN n x.toNat, by go_num, by go_num, by omega, m4, HS, trivial⟩
      case measure => simp [intOf]; omega
    · have HK := Lib.hid (show k = s.size by omega)
      have x1 := invx n hn
      go_wp2
      go_ret
      exact ⟨ret_u32 (by rw [HN.out, HK.out, take_all]; rfl), rfl⟩

theorem rOf_any (s : ByteArray) (w : World) (hs : s.size ≤ 9223372036854775807) :
    Calls Try.prog 21 #[.string s] w fun e w' => e = .returned (.int .u32 (con 0 s.data.toList)) ∧ w = w' := by
  go_enter Try.func21, Try.ntmps21
  go_wp2_with fail
  refine (rOn_any 0 (by omega) s _ hs).mono ?_
  rintro e w1 ⟨rfl, rfl⟩
  go_wp2
  go_ret
  exact ⟨rfl, rfl⟩
end Go.Proofs.Ytgilfjojimgpaaa.Co
