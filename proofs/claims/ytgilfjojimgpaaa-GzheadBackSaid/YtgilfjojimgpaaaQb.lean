/-
  gzhead's small functions, called with any values: isUpTo, hasEnd, mayBe, fixed, flagByte, checksum.
  Conditions: as each theorem says.
-/
import Derived.Test.YtgilfjojimgpaaaQa
import Derived.Test.YtgilfjojimgpaaaCo
import Derived.Test.YtgilfjojimgpaaaVf
import Derived.BigQuiet
import Derived.Deep.RegionHeld3
namespace Go.Proofs.Ytgilfjojimgpaaa.Qb
open Go.RowKit Go.Proofs.Ytgilfjojimgpaaa.Vm Go.Proofs.Ytgilfjojimgpaaa.Vo Go.Proofs.Ytgilfjojimgpaaa.Vf Go.Proofs.Ytgilfjojimgpaaa.Bw Go.Proofs.Ytgilfjojimgpaaa.Qm Go.Proofs.Ytgilfjojimgpaaa.Qa

/-- A head's cells. -/
abbrev cs9 (t : Int) (e n c : ByteArray) (v o : Int) (x m : Bool) (f : Int) : Array Value := #[.int .i64 t, .string e, .string n, .string c, .int .i64 v, .int .i64 o, .bool x, .bool m, .int .i64 f]
/-- The head that it is. -/
def hq (t : Int) (e n c : ByteArray) (v o : Int) (x m : Bool) (f : Int) : Hq := ⟨t, e.data.toList, n.data.toList, c.data.toList, v, o, x, m, f⟩
theorem one9 (t : Int) (e n c : ByteArray) (v o : Int) (x m : Bool) (f : Int) : (cs9 t e n c v o x m f).all (·.oneCell') = true := by simp [Value.oneCell']
theorem sizeHd : (Try.prog.info? 23).map (·.size) = some 9 := by kernel_rfl
theorem ret_i64 {a b : Int} (h : a = b) : Ending.returned (.int .i64 a) = .returned (.int .i64 b) := by rw [h]
theorem ret_bool {a b : Bool} (h : a = b) : Ending.returned (.bool a) = .returned (.bool b) := by rw [h]

theorem isUpTo_any (n k : Int) (w : World) : Calls Try.prog 22 #[.int .i64 n, .int .i64 k] w fun e w' => e = .returned (.bool (decide (0 ≤ n ∧ n ≤ k))) ∧ w = w' := by
  by_cases h0 : 0 ≤ n <;> by_cases h1 : n ≤ k
  all_goals
    go_enter Try.func22, Try.ntmps22
    go_wp2
    go_ret
    exact ⟨ret_bool (by simp [h0, h1]), rfl⟩
theorem hasEnd_any (s : ByteArray) (w : World) : Calls Try.prog 23 #[.string s] w fun e w' => e = .returned (.bool (decide ((0 : UInt8) ∈ s.data.toList))) ∧ w = w' := by
  have H := Lib.hid (ix_bare s.data.toList)
  go_enter Try.func23, Try.ntmps23
  go_wp2_with (go_at_call 38; refine (IndexByte_any _ _).mono ?_; rintro e w' ⟨rfl, rfl⟩)
  go_ret
  refine ⟨ret_bool ?_, rfl⟩
  have := H.out
  by_cases hm : (0 : UInt8) ∈ s.data.toList
  · have h2 : ¬ Lib.indexByte s.data.toList 0 < 0 := fun e => this.1 e hm
    simp only [hm, decide_true, decide_eq_true_eq]; omega
  · have h2 := this.2 hm
    simp only [hm, decide_false, decide_eq_false_iff_not]; omega
theorem nil_iff (s : ByteArray) : s.toList = [] ↔ s.data.toList = [] := by rw [Lib.toList_data]
theorem mayBe_any (s : ByteArray) {f k z : Int} (hz : bits .and .i64 f k = z) (w : World) : Calls Try.prog 24 #[.string s, .int .i64 f, .int .i64 k] w fun e w' => e = .returned (.bool (decide (s.data.toList = [] ∨ z ≠ 0))) ∧ w = w' := by
  have H := Lib.hid (nil_iff s)
  by_cases h0 : s.toList = []
  all_goals
    go_enter Try.func24, Try.ntmps24
    go_wp2
    go_ret
    refine ⟨ret_bool ?_, rfl⟩
    have hI := H.out
    by_cases hz0 : z = 0
    · by_cases hd : s.data.toList = []
      · rw [decide_eq_true (.inl hd)] <;> simp [hI.2 hd]
      · rw [decide_eq_false (fun h => h.elim hd (fun k => k hz0))]; simp_all
    · rw [decide_eq_true (.inr hz0)] <;> simp [hz0]
theorem mayBe_eq (s : ByteArray) (f k : Int) (w : World) : Calls Try.prog 24 #[.string s, .int .i64 f, .int .i64 k] w fun e w' => e = .returned (.bool (decide (s.data.toList = [] ∨ bits .and .i64 f k ≠ 0))) ∧ w = w' := mayBe_any s rfl w
theorem fixed_any (n k : Nat) (w : World) (hk : k = 1 ∨ k = 2 ∨ k = 4) (hn : n < 256 ^ k) : Calls Try.prog 16 #[.int .i64 (n : Int), .int .i64 (k : Int)] w fun e w' => e = .returned (.string ⟨(le k n).toArray⟩) ∧ Below w.heap.size w w' := by
  have hb : n ≤ 9223372036854775807 := by rcases hk with rfl | rfl | rfl <;> omega
  have H := Lib.hid (show (fixR n k).1 = le k n by
    have hw : Vw.wid (k : Int) = true := by rcases hk with rfl | rfl | rfl <;> rfl
    have hd : n / 256 ^ k = 0 := Nat.div_eq_of_lt hn
    have h0 : ¬ (n : Int) < 0 := by omega
    simp [fixR, hw, hd, h0])
  have hF := Lib.hid (Fixed_any (n : Int) (k : Int) w (by omega))
  generalize fixR n k = R at *
  clear hk hn hb
  go_enter Try.func16, Try.ntmps16
  go_wp2_with (go_at_call 34; refine hF.out.mono ?_; rintro e w' ⟨rfl, hb⟩)
  go_ret
  exact ⟨ret_str (by rw [H.out]), hb⟩
theorem checksum_any (s : ByteArray) (w : World) (hs : s.size ≤ 9223372036854775807) : Calls Try.prog 18 #[.string s] w fun e w' => e = .returned (.int .i64 ((Cm.con 0 s.data.toList % 65536 : Nat) : Int)) ∧ Below w.heap.size w w' := by
  go_enter Try.func18, Try.ntmps18
  go_wp2_with (go_at_call 35; refine (Co.Of_any _ _ hs).mono ?_; rintro e w' ⟨rfl, hb⟩)
  go_ret
  exact ⟨rfl, hb⟩
set_option maxRecDepth 100000 in
theorem flagByte_any (t : Int) (e n c : ByteArray) (v o : Int) (x m : Bool) (f : Int) (w : World) (hf : 0 ≤ f ∧ f ≤ 28) : Calls Try.prog 17 #[.agg (cs9 t e n c v o x m f)] w fun e' w' => e' = .returned (.int .i64 ((flQ (hq t e n c v o x m f) : Nat) : Int)) ∧ Below w.heap.size w w' := by
  obtain ⟨F, rfl⟩ := Int.eq_ofNat_of_zero_le hf.1
  have hF : F ≤ 28 := by omega
  have H : Hid (flQ (hq t e n c v o x m F) = F + x.toNat + 2 * m.toNat) := Lib.hid rfl
  generalize flQ (hq t e n c v o x m F) = R at *
  clear hf
  cases x <;> cases m
  all_goals
    go_enter Try.func17, Try.ntmps17
    go_wp2
    go_ret
    refine ⟨ret_i64 ?_, (Below.refl _ w).alloc (Nat.le_refl _) _⟩
    have := H.out
    simp at this
    omega
/-- What the small functions answer, as names. -/
def up (n k : Int) : Bool := decide (0 ≤ n ∧ n ≤ k)
def hasE (s : ByteArray) : Bool := decide ((0 : UInt8) ∈ s.data.toList)
def may (s : ByteArray) (f k : Int) : Bool := decide (s.data.toList = [] ∨ bits .and .i64 f k ≠ 0)
theorem isUpTo_up (n k : Int) (w : World) : Calls Try.prog 22 #[.int .i64 n, .int .i64 k] w fun e w' => e = .returned (.bool (up n k)) ∧ w = w' := isUpTo_any n k w
theorem hasEnd_has (s : ByteArray) (w : World) : Calls Try.prog 23 #[.string s] w fun e w' => e = .returned (.bool (hasE s)) ∧ w = w' := hasEnd_any s w
theorem mayBe_may (s : ByteArray) (f k : Int) (w : World) : Calls Try.prog 24 #[.string s, .int .i64 f, .int .i64 k] w fun e w' => e = .returned (.bool (may s f k)) ∧ w = w' := mayBe_any s rfl w
end Go.Proofs.Ytgilfjojimgpaaa.Qb
