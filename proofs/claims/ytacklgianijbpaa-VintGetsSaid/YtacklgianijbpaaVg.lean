/-
  vint.Get, called with any string and any offset: its results; nothing that was there has changed.
-/
import Derived.Test.YtacklgianijbpaaVw
import Derived.Test.YtacklgianijbpaaVb
namespace Go.Proofs.Ytacklgianijbpaa.Vg
open Go.RowKit Go.Proofs.Ytacklgianijbpaa.Vm Go.Proofs.Ytacklgianijbpaa.Vo Go.Proofs.Ytacklgianijbpaa.Vb Go.PlainAid

theorem extract_toList (s : ByteArray) (a : Nat) : (s.extract a s.size).data.toList = s.data.toList.drop a := by
  rw [ByteArray.data_extract, Array.toList_extract]
  have : s.data.toList.length = s.size := by rw [Array.length_toList]; rfl
  rw [List.extract_eq_take_drop, List.take_of_length_le (by rw [List.length_drop]; omega)]

set_option maxRecDepth 100000 in
theorem Get_in (s : ByteArray) (a : Nat) (w : World) (hs : s.size ≤ 9223372036854775807) (ha : a < s.size) :
    Calls Try.prog 13 #[.string s, .int .i64 a] w fun e w' => e = .returned (.tuple #[.int .i64 (getR s a).1, .int .i64 (getR s a).2.1, .int .i64 (getR s a).2.2]) ∧ w = w' := by
  obtain ⟨r, hr⟩ : ∃ r, s.extract a s.size = r := ⟨_, rfl⟩
  have HR : Hid (r.data.toList = s.data.toList.drop a) := Lib.hid (by rw [← hr]; exact extract_toList s a)
  have hrs : r.size ≤ s.size - a := by rw [← hr, ByteArray.size_extract]; omega
  have hb := get_bt r
  go_enter Try.func13, Try.ntmps13
  go_wp2
  go_step3
  go_wp2
  go_step3
  go_wp2
  go_loop [8, 9, 21] (fun n z i => ∃ k X : Nat, i = .int .i64 k ∧ k ≤ 9 ∧ k ≤ r.size ∧ n = .int .i64 X ∧ z = .int .i64 0 ∧ X ≤ 9223372036854775807 ∧ Hid (X < 128 ^ k) ∧ Hid (getk 0 0 r.data.toList = getk k X (r.data.toList.drop k)))
    (fun _ _ i => 9 - (intOf i).toNat)
  case atStart => exact ⟨0, 0, rfl, by omega, by omega, rfl, rfl, by omega, Lib.hid (by simp), Lib.hid (by simp)⟩
  case round =>
    obtain ⟨k, X, rfl, hk, hkz, rfl, rfl, hX, HX, HG⟩ := hrel
    have hc0 := bt_nonneg r k
    have hc1 := bt_le r k
    clear hr
    by_cases hk9 : k < 9
    · by_cases hkr : k < r.size
      · by_cases h128 : 128 ≤ bt r k
        · obtain ⟨X', hX', h1, h2, h3⟩ := get_next hk9 hkr h128 HX HG
          clear HX HG
          go_wp2
          go_round
          case rel => exact ⟨k + 1, X', by go_num, by omega, by omega, rfl, rfl, h1, h2, h3⟩
          case measure => simp [intOf]; omega
        · by_cases h0 : bt r k = 0 ∧ 0 < k
          · have HZ := get_zero hk9 hkr h0.1 h0.2 HG
            obtain ⟨h00, h01⟩ := h0
            clear HX HG
            go_wp2
            go_ret3
            exact ⟨ret_int3 (by rw [getR_no HR.out (by decide) HZ]) (by rw [getR_no HR.out (by decide) HZ]) (by rw [getR_no HR.out (by decide) HZ]), rfl⟩
          · obtain ⟨X', hX', h1, h3⟩ := get_last hk9 hkr (by omega) h0 HX HG
            clear HX HG
            by_cases h00 : bt r k = 0
            · have hk0 : ¬ 0 < k := fun h => h0 ⟨h00, h⟩
              have hkk : decide (0 < (k : Int)) = false := by simp; omega
              have hX0 : bits .or .i64 (X : Int) 0 = (X' : Int) := by rw [h00] at hX'; simpa [wrap64] using hX'
              clear hX'
              go_wp2
              go_ret3
              have e := getR_ok HR.out h3
              exact ⟨ret_int3 (by rw [e]) (by rw [e]; simp) (by rw [e]), rfl⟩
            · go_wp2
              go_ret3
              have e := getR_ok HR.out h3
              exact ⟨ret_int3 (by rw [e]) (by rw [e]; simp) (by rw [e]), rfl⟩
      · have HZ := get_short hk9 hkr HG
        have hkk : ((k : Int) == (r.size : Int)) = true := by simp; omega
        clear HX HG
        go_wp2
        go_ret3
        exact ⟨ret_int3 (by rw [getR_no HR.out (by decide) HZ]) (by rw [getR_no HR.out (by decide) HZ]) (by rw [getR_no HR.out (by decide) HZ]), rfl⟩
    · have HZ := get_nine hk9 HG
      clear HX HG
      go_wp2
      go_ret3
      exact ⟨ret_int3 (by rw [getR_no HR.out (by decide) HZ]) (by rw [getR_no HR.out (by decide) HZ]) (by rw [getR_no HR.out (by decide) HZ]), rfl⟩

/-- Get, at whatever offset. -/
theorem Get_any (s : ByteArray) (a : Int) (w : World) (hs : s.size ≤ 9223372036854775807) (ha : a ≤ 9223372036854775807) :
    Calls Try.prog 13 #[.string s, .int .i64 a] w fun e w' => e = .returned (.tuple #[.int .i64 (getR s a).1, .int .i64 (getR s a).2.1, .int .i64 (getR s a).2.2]) ∧ w = w' := by
  by_cases h : a < 0
  · have H := Lib.hid (getR_neg (s := s) h)
    go_enter Try.func13, Try.ntmps13
    go_wp2
    go_step3
    go_wp2
    rw [Exit.noGoto_ret]
    go_ret3
    exact ⟨ret_int3 (by rw [H.out]) (by rw [H.out]) (by rw [H.out]), rfl⟩
  · obtain ⟨m, rfl⟩ := Int.eq_ofNat_of_zero_le (show 0 ≤ a by omega)
    by_cases hm : m < s.size
    · exact Get_in s m w hs hm
    · have H := Lib.hid (getR_past (s := s) (a := m) (by omega))
      go_enter Try.func13, Try.ntmps13
      go_wp2
      go_step3
      go_wp2
      rw [Exit.noGoto_ret]
      go_ret3
      exact ⟨ret_int3 (by rw [H.out]) (by rw [H.out]) (by rw [H.out]), rfl⟩

end Go.Proofs.Ytacklgianijbpaa.Vg
