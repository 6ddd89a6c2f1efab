/-
  Sets of bytes in memory: add.
  Conditions: as each theorem says.
-/
import Derived.Test.YtdbeohfaaonbjaaTa
import Derived.Test.YtdbeohfaaonbjaaRows
import Derived.Test.YtdbeohfaaonbjaaNa
import Derived.Test.YtdbeohfaaonbjaaVo
import Derived.Deep.WholeRow
import Derived.WalkSpells
import Derived.WalkLawsBesides
namespace Go.Proofs.Ytdbeohfaaonbjaa.Tb
open Go.RowKit Go.Proofs.Ytdbeohfaaonbjaa.Vm Go.Proofs.Ytdbeohfaaonbjaa.Vo Go.Proofs.Ytdbeohfaaonbjaa.Bw Go.Proofs.Ytdbeohfaaonbjaa.Na Go.Proofs.Ytdbeohfaaonbjaa.Tm Go.Proofs.Ytdbeohfaaonbjaa.Ta

/-- A set's cells. -/
def sv (a : List Nat) : Array Value := (a.map fun x : Nat => Value.int .u64 (x : Int)).toArray
theorem sv_size (a : List Nat) : (sv a).size = a.length := by simp [sv]
theorem sv_get {a : List Nat} {i x : Nat} (h : a[i]? = some x) : (sv a)[i]? = some (.int .u64 (x : Int)) := by simp [sv, h]
theorem sv_set (a : List Nat) (k x : Nat) : (sv a).setIfInBounds k (.int .u64 (x : Int)) = sv (a.set k x) := by
  simp [sv, List.map_set]
theorem sv_one (a : List Nat) : (sv a).all (·.oneCell') = true := by
  rw [Array.all_eq_true]
  intro i hi
  simp [sv, Value.oneCell']
theorem sv_zero : Array.replicate 4 (Value.int .u64 0) = sv zero := rfl
theorem infoS : (Try.prog.info? 25).map (fun i => (i.zero, i.size)) = some (some (.agg (Array.replicate 4 (.int .u64 0))), 4) := by kernel_rfl

theorem or_pow {x r : Nat} (hx : x < 18446744073709551616) (hr : r < 64) : bits .or .u64 (x : Int) (IntKind.u64.wrap (2 ^ r)) = ((x ||| 2 ^ r : Nat) : Int) := by
  have hp : 2 ^ r < 18446744073709551616 := show 2 ^ r < 2 ^ 64 from Nat.pow_lt_pow_right (by omega) hr
  have e : (2 : Int) ^ r = ((2 ^ r : Nat) : Int) := by push_cast; rfl
  rw [e]
  generalize 2 ^ r = m at *
  rw [IntKind.wrap_u64, Int.emod_eq_of_lt (by omega) (by omega)]
  exact u64_or_nat x m hx hp
set_option maxRecDepth 100000 in
theorem add_any {w : World} {g c : Nat} {a : List Nat} (hb : Blk w g 25 (sv a)) (ha : isSet a) (hc : c < 256) :
    Calls Try.prog 25 #[.pointer (some ⟨g, 0, none⟩), .int .u8 c] w fun e w' => e = .returned (.tuple #[]) ∧ Blk w' g 25 (sv (wth a c)) ∧ Only (· = g) w w' := by
  obtain ⟨q, hq⟩ : ∃ q, q = c / 64 := ⟨_, rfl⟩
  obtain ⟨r, hr⟩ : ∃ r, r = c % 64 := ⟨_, rfl⟩
  have hq4 : q < 4 := by omega
  have hr64 : r < 64 := by omega
  obtain ⟨x, hx⟩ : ∃ x, x = a.getD q 0 := ⟨_, rfl⟩
  have hcell : w.cell? ⟨g, q, none⟩ = some (.int .u64 x) := by rw [hb.cell, sv_get (by rw [get_of ha hq4, ← hx])]
  have hfr := hb.frozen q
  have h1 : (c : Int) / 64 = q := by omega
  have h2 : (c : Int) % 64 = r := by omega
  have hxl : x < 18446744073709551616 := by rw [hx]; exact word_lt ha q
  have HB := Lib.hid hb
  have HW : Hid (wth a c = a.set q (x ||| 2 ^ r)) := Lib.hid (by rw [hx, hq, hr]; rfl)
  clear hb hq hr hx
  go_enter Try.func25, Try.ntmps25
  go_wp2
  go_region
  rw [or_pow hxl hr64]
  go_end0
  have hs := HB.out.store q (.int .u64 ((x ||| 2 ^ r : Nat) : Int))
  rw [sv_set, ← HW.out] at hs
  exact ⟨rfl, hs, ((Only.refl (· = g) w).store (p := ⟨g, q, none⟩) (.inl rfl) _).drew⟩

theorem has_bit {x r : Nat} (hx : x < 18446744073709551616) : decide (bits .and .u64 ((x : Int) / 2 ^ r) 1 = 1) = x.testBit r := by
  have e : (x : Int) / 2 ^ r = ((x / 2 ^ r : Nat) : Int) := by simp
  have h1 : x / 2 ^ r ≤ x := Nat.div_le_self _ _
  rw [e]
  have := u64_and_nat (x / 2 ^ r) 1 (by omega) (by omega)
  rw [show (((1 : Nat) : Int)) = 1 from rfl] at this
  rw [this, Nat.testBit_eq_decide_div_mod_eq, Nat.and_one_is_mod]
  exact decide_eq_decide.2 (by omega)
set_option maxRecDepth 100000 in
theorem Has_any {c : Nat} {a : List Nat} (ha : isSet a) (hc : c < 256) (w : World) :
    Calls Try.prog 19 #[.agg (sv a), .int .u8 c] w fun e w' => e = .returned (.bool (has a c)) ∧ Below w.heap.size w w' := by
  obtain ⟨q, hq⟩ : ∃ q, q = c / 64 := ⟨_, rfl⟩
  obtain ⟨r, hr⟩ : ∃ r, r = c % 64 := ⟨_, rfl⟩
  have hq4 : q < 4 := by omega
  have hr64 : r < 64 := by omega
  obtain ⟨x, hx⟩ : ∃ x, x = a.getD q 0 := ⟨_, rfl⟩
  have hcell : (w.alloc (.cells (sv a) 25)).cell? ⟨w.heap.size, q, none⟩ = some (.int .u64 x) := by rw [(Blk.fresh w _ _).cell, sv_get (by rw [get_of ha hq4, ← hx])]
  have h1 : (c : Int) / 64 = q := by omega
  have h2 : (c : Int) % 64 = r := by omega
  have hxl : x < 18446744073709551616 := by rw [hx]; exact word_lt ha q
  have HH : Hid (has a c = x.testBit r) := Lib.hid (by rw [hx, hq, hr]; rfl)
  clear hq hr hx
  go_enter Try.func19, Try.ntmps19
  go_wp2
  go_ret
  exact ⟨ret_bool (by rw [HH.out, ← has_bit hxl]; rfl), below_alloc _ _⟩

theorem infoU : (Try.prog.info? 5).map (fun i => (i.zero, i.size, i.bytes)) = some (some (.int .u8 0), 1, 1) := by kernel_rfl
theorem sizeS : (Try.prog.info? 25).map (·.size) = some 4 := by kernel_rfl
theorem fit {z : Array Value} (h : z.size = 4) : (Try.prog.info? 25).map (·.size) = some z.size := by rw [h]; exact sizeS
theorem sv4 {a : List Nat} (h : isSet a) : (sv a).size = 4 := by rw [sv_size, h.l]
theorem take_next (s : ByteArray) (k : Nat) (h : k < s.size) : s.data.toList.take (k + 1) = s.data.toList.take k ++ [s[k]] := by
  rw [List.take_add_one]; simp [h]; rfl
theorem take_all (s : ByteArray) : s.data.toList.take s.size = s.data.toList := List.take_of_length_le (by simp)
theorem ofS_snoc (l : List UInt8) (x : UInt8) : ofS (l ++ [x]) = wth (ofS l) x.toNat := by simp [ofS]
theorem two_start (w : World) (t : TypeId) (c1 c2 : Array Value) : Blk ((w.alloc (.cells c1 t)).alloc (.cells c2 t)) w.heap.size t c1 ∧ Blk ((w.alloc (.cells c1 t)).alloc (.cells c2 t)) (w.heap.size + 1) t c2 ∧ Below w.heap.size w ((w.alloc (.cells c1 t)).alloc (.cells c2 t)) := by
  refine ⟨(Blk.fresh w _ _).below (below_alloc _ _), ?_, grows (below_alloc _ _) (below_alloc _ _)⟩
  have := Blk.fresh (w.alloc (.cells c1 t)) t c2
  rw [size_alloc] at this; exact this
/-- What a call that changes one block of the caller's own leaves. -/
theorem below_only {B g : Nat} {W a b : World} (k : Below B W a) (h : Only (· = g) a b) (hg : B ≤ g) (hB : B ≤ a.heap.size) : Below B W b := h.below k hB (fun i hi => by subst hi; exact hg)

set_option maxRecDepth 100000 in
theorem Of_any (s : ByteArray) (w : World) (hs : s.size ≤ 9223372036854775807) :
    Calls Try.prog 8 #[.string s] w fun e w' => e = .returned (.agg (sv (ofS s.data.toList))) ∧ Below w.heap.size w w' := by
  obtain ⟨hz, hsz⟩ := zero_of_info infoS
  rw [sv_zero] at hz
  go_enter Try.func8, Try.ntmps8
  go_wp2
  clear hz hsz
  go_loopw [7] (fun i wr => ∃ k : Nat, i = .int .i64 k ∧ k ≤ s.size ∧ Hid (Blk wr w.heap.size 25 (sv zero)) ∧ Hid (Blk wr (w.heap.size + 1) 25 (sv (ofS (s.data.toList.take k)))) ∧ Hid (Below w.heap.size w wr))
    (fun i _ => s.size - (intOf i).toNat)
  case atStart =>
    obtain ⟨h1, h2, h3⟩ := two_start w 25 (sv zero) (sv zero)
    exact ⟨0, rfl, by omega, Lib.hid h1, Lib.hid h2, Lib.hid h3⟩
  case round =>
    obtain ⟨k, rfl, hk, HR, HT, HB⟩ := hrel
    by_cases h8 : k < s.size
    · obtain ⟨x, hx, HX⟩ : ∃ x : UInt8, s[k]'h8 = x ∧ Hid (s[k]'h8 = x) := ⟨_, rfl, Lib.hid rfl⟩
      have hx256 : x.toNat < 256 := UInt8.toNat_lt x
      go_wp2_with (go_at_call 25; fail)
      refine (add_any HT.out (ofS_set _) hx256).mono ?_
      rintro e w' ⟨rfl, HT', HO⟩
      have HT2 := Lib.hid HT'
      have HO2 := Lib.hid HO
      clear HT' HO
      go_wp2
      go_roundw
      case rel =>
        refine ⟨k + 1, by go_num, by omega, Lib.hid (HR.out.only HO2.out (by omega)), Lib.hid ?_, Lib.hid (below_only HB.out HO2.out (by omega) HB.out.size)⟩
        rw [take_next s k h8, HX.out, ofS_snoc]; exact HT2.out
      case measure => simp [intOf]; omega
    · have hk8 := Lib.hid (show k = s.size by omega)
      obtain ⟨z, hz⟩ : ∃ z, z = sv (ofS s.data.toList) := ⟨_, rfl⟩
      have HZ := Lib.hid hz
      have HT' : Hid (Blk wr (w.heap.size + 1) 25 z) := Lib.hid (by have := HT.out; rw [hk8.out, take_all] at this; rw [HZ.out]; exact this)
      have H4 : Hid (z.size = 4) := Lib.hid (by rw [HZ.out, sv4 (ofS_set _)])
      have H1 : Hid (z.all (·.oneCell') = true) := Lib.hid (by rw [HZ.out]; exact sv_one _)
      have hlt : ¬ ((k : Int) < (s.size : Int)) := by omega
      clear hz hk h8
      go_wp2_with (first | refine wpList_load_row rfl 25 _ rfl (w.heap.size + 1) rfl _ _ _ _ HT'.out Try.underlying25 rfl (fit H4.out) ?_ | refine wpList_store_row rfl 25 _ _ rfl w.heap.size z rfl rfl _ _ HR.out (fit H4.out) (Eq.trans (sv4 zero_set) (Eq.symm H4.out)) H1.out ?_)
      refine bodyPost_ret (v := .agg z) (results_cell_row rfl _ _ w.heap.size 25 _ _ _ rfl (setRow_heap _ _ _ _ _ _ HR.out) Try.underlying25 rfl (fit H4.out)) rfl ?_
      exact ⟨by rw [HZ.out], Below_setRow HB.out (Nat.le_refl _) _⟩

/-- A set whose words are changed one by one, in the box of the call's own. -/
theorem mix_cell {w : World} {g k : Nat} {f : Nat → Nat → Nat} {a b : List Nat} (h : Blk w g 25 (sv (mix f a b k))) (hk : k < 4) : w.cell? ⟨g, k, none⟩ = some (.int .u64 (a.getD k 0 : Nat)) := by
  rw [h.cell, sv_get (mix_get hk), if_neg (Nat.lt_irrefl k)]
theorem set_cell {w : World} {g k : Nat} {a : List Nat} (h : Blk w g 25 (sv a)) (ha : isSet a) (hk : k < 4) : w.cell? ⟨g, k, none⟩ = some (.int .u64 (a.getD k 0 : Nat)) := by
  rw [h.cell, sv_get (get_of ha hk)]
theorem mix_store {w : World} {g k : Nat} {f : Nat → Nat → Nat} {a b : List Nat} (h : Blk w g 25 (sv (mix f a b k))) (hk : k < 4) :
    Blk (w.setCell ⟨g, k, none⟩ (.int .u64 (f (a.getD k 0) (b.getD k 0) : Nat))) g 25 (sv (mix f a b (k + 1))) := by
  have := h.store k (.int .u64 (f (a.getD k 0) (b.getD k 0) : Nat))
  rw [sv_set, mix_step hk] at this
  exact this

theorem not_bits {x : Nat} (hx : x < 18446744073709551616) : bits BinOp.xor IntKind.u64 (if IntKind.u64.signed = true then -1 else IntKind.u64.max) (x : Int) = ((fNot x x : Nat) : Int) := by
  have e : (if IntKind.u64.signed = true then -1 else IntKind.u64.max) = ((18446744073709551615 : Nat) : Int) := by decide
  rw [e, u64_xor_nat _ x (by omega) hx]
  congr 1
  refine Nat.eq_of_testBit_eq fun i => ?_
  have h1 := Nat.testBit_two_pow_sub_succ (n := 64) (x := x) hx i
  have h2 : fNot x x = 2 ^ 64 - (x + 1) := by unfold fNot; omega
  rw [h2, h1, Nat.testBit_xor, show (18446744073709551615 : Nat) = 2 ^ 64 - 1 from rfl, Nat.testBit_two_pow_sub_one]
  by_cases hi : i < 64
  · simp [hi]
  · rw [Nat.testBit_lt_two_pow (x := x) (i := i) (Nat.lt_of_lt_of_le (show x < 2 ^ 64 from hx) (Nat.pow_le_pow_right (by omega) (by omega)))]
    simp [hi]
set_option maxRecDepth 100000 in
theorem Not_any {a : List Nat} (ha : isSet a) (w : World) :
    Calls Try.prog 12 #[.agg (sv a)] w fun e w' => e = .returned (.agg (sv (notL a))) ∧ Below w.heap.size w w' := by
  obtain ⟨hz, hsz⟩ := zero_of_info infoS
  rw [sv_zero] at hz
  go_enter Try.func12, Try.ntmps12
  go_wp2
  clear hz hsz
  go_loopw [4] (fun i wr => ∃ k : Nat, i = .int .i64 k ∧ k ≤ 4 ∧ Hid (Blk wr w.heap.size 25 (sv (mix fNot a a k))) ∧ Hid (Blk wr (w.heap.size + 1) 25 (sv zero)) ∧ Hid (Below w.heap.size w wr))
    (fun i _ => 4 - (intOf i).toNat)
  case atStart =>
    obtain ⟨h1, h2, h3⟩ := two_start w 25 (sv a) (sv zero)
    exact ⟨0, rfl, by omega, Lib.hid (by rw [mix_zero ha]; exact h1), Lib.hid h2, Lib.hid h3⟩
  case round =>
    obtain ⟨k, rfl, hk, HT, HR, HB⟩ := hrel
    by_cases h8 : k < 4
    · have hc := mix_cell HT.out h8
      have hfr := HT.out.frozen k
      have hl := word_lt ha k
      have HS := Lib.hid (mix_store HT.out h8)
      generalize hx : a.getD k 0 = x at *
      go_wp2
      go_roundw
      case rel =>
        rw [not_bits hl]
        exact ⟨k + 1, by go_num, by omega, HS, Lib.hid (HR.out.apartStore (by show w.heap.size + 1 ≠ w.heap.size; omega)), Lib.hid (HB.out.setCell (Nat.le_refl w.heap.size) _)⟩
      case measure => simp [intOf]; omega
    · obtain ⟨z, hz⟩ : ∃ z, z = sv (notL a) := ⟨_, rfl⟩
      have HZ := Lib.hid hz
      have HT' : Hid (Blk wr w.heap.size 25 z) := Lib.hid (by have := HT.out; rw [show k = 4 by omega] at this; rw [HZ.out]; exact this)
      have H4 : Hid (z.size = 4) := Lib.hid (by rw [HZ.out, sv4 (notL_set ha)])
      have H1 : Hid (z.all (·.oneCell') = true) := Lib.hid (by rw [HZ.out]; exact sv_one _)
      have hlt : ¬ ((k : Int) < 4) := by omega
      clear hz hk h8
      go_wp2_with (first | refine wpList_load_row rfl 25 _ rfl w.heap.size rfl _ _ _ _ HT'.out Try.underlying25 rfl (fit H4.out) ?_ | refine wpList_store_row rfl 25 _ _ rfl (w.heap.size + 1) z rfl rfl _ _ HR.out (fit H4.out) (Eq.trans (sv4 zero_set) (Eq.symm H4.out)) H1.out ?_)
      refine bodyPost_ret (v := .agg z) (results_cell_row rfl _ _ (w.heap.size + 1) 25 _ _ _ rfl (setRow_heap _ _ _ _ _ _ HR.out) Try.underlying25 rfl (fit H4.out)) rfl ?_
      exact ⟨by rw [HZ.out], Below_setRow HB.out (by omega) _⟩

set_option maxRecDepth 100000 in
theorem Or_any {a b : List Nat} (ha : isSet a) (hb : isSet b) (w : World) :
    Calls Try.prog 14 #[.agg (sv a), .agg (sv b)] w fun e w' => e = .returned (.agg (sv (orL a b))) ∧ Below w.heap.size w w' := by
  obtain ⟨hz, hsz⟩ := zero_of_info infoS
  rw [sv_zero] at hz
  go_enter Try.func14, Try.ntmps14
  go_wp2
  clear hz hsz
  go_loopw [6] (fun i wr => ∃ k : Nat, i = .int .i64 k ∧ k ≤ 4 ∧ Hid (Blk wr w.heap.size 25 (sv (mix fOr a b k))) ∧ Hid (Blk wr (w.heap.size + 1) 25 (sv b)) ∧ Hid (Blk wr (w.heap.size + 1 + 1) 25 (sv zero)) ∧ Hid (Below w.heap.size w wr))
    (fun i _ => 4 - (intOf i).toNat)
  case atStart =>
    obtain ⟨h1, h2, h3, h4⟩ := start3 w 25 25 25 (sv a) (sv b) (sv zero)
    exact ⟨0, rfl, by omega, Lib.hid (by rw [mix_zero ha]; exact h1), Lib.hid h2, Lib.hid h3, Lib.hid h4⟩
  case round =>
    obtain ⟨k, rfl, hk, HT, HU, HR, HB⟩ := hrel
    by_cases h8 : k < 4
    · have hc := mix_cell HT.out h8
      have hd := set_cell HU.out hb h8
      have hfr := HT.out.frozen k
      have hl := word_lt ha k
      have hm := word_lt hb k
      have HS := Lib.hid (mix_store HT.out h8)
      generalize hx : a.getD k 0 = x at *
      generalize hy : b.getD k 0 = y at *
      have HO : Hid (bits .or .u64 (x : Int) (y : Int) = ((fOr x y : Nat) : Int)) := Lib.hid (u64_or_nat x y hl hm)
      clear hx hy hl hm
      go_wp2
      go_region
      go_wp2
      go_roundw
      case rel =>
        rw [HO.out]
        exact ⟨k + 1, by go_num, by omega, HS, Lib.hid (HU.out.apartStore (by show w.heap.size + 1 ≠ w.heap.size; omega)), Lib.hid (HR.out.apartStore (by show w.heap.size + 1 + 1 ≠ w.heap.size; omega)), Lib.hid (below_drew (HB.out.setCell (Nat.le_refl w.heap.size) _))⟩
      case measure => simp [intOf]; omega
    · obtain ⟨z, hz⟩ : ∃ z, z = sv (orL a b) := ⟨_, rfl⟩
      have HZ := Lib.hid hz
      have HT' : Hid (Blk wr w.heap.size 25 z) := Lib.hid (by have := HT.out; rw [show k = 4 by omega] at this; rw [HZ.out]; exact this)
      have H4 : Hid (z.size = 4) := Lib.hid (by rw [HZ.out, sv4 (orL_set ha hb)])
      have H1 : Hid (z.all (·.oneCell') = true) := Lib.hid (by rw [HZ.out]; exact sv_one _)
      have hlt : ¬ ((k : Int) < 4) := by omega
      clear hz hk h8
      go_wp2_with (first | refine wpList_load_row rfl 25 _ rfl w.heap.size rfl _ _ _ _ HT'.out Try.underlying25 rfl (fit H4.out) ?_ | refine wpList_store_row rfl 25 _ _ rfl (w.heap.size + 1 + 1) z rfl rfl _ _ HR.out (fit H4.out) (Eq.trans (sv4 zero_set) (Eq.symm H4.out)) H1.out ?_)
      refine bodyPost_ret (v := .agg z) (results_cell_row rfl _ _ (w.heap.size + 1 + 1) 25 _ _ _ rfl (setRow_heap _ _ _ _ _ _ HR.out) Try.underlying25 rfl (fit H4.out)) rfl ?_
      exact ⟨by rw [HZ.out], Below_setRow HB.out (by omega) _⟩

set_option maxRecDepth 100000 in
theorem And_any {a b : List Nat} (ha : isSet a) (hb : isSet b) (w : World) :
    Calls Try.prog 16 #[.agg (sv a), .agg (sv b)] w fun e w' => e = .returned (.agg (sv (andL a b))) ∧ Below w.heap.size w w' := by
  obtain ⟨hz, hsz⟩ := zero_of_info infoS
  rw [sv_zero] at hz
  go_enter Try.func16, Try.ntmps16
  go_wp2
  clear hz hsz
  go_loopw [6] (fun i wr => ∃ k : Nat, i = .int .i64 k ∧ k ≤ 4 ∧ Hid (Blk wr w.heap.size 25 (sv (mix fAnd a b k))) ∧ Hid (Blk wr (w.heap.size + 1) 25 (sv b)) ∧ Hid (Blk wr (w.heap.size + 1 + 1) 25 (sv zero)) ∧ Hid (Below w.heap.size w wr))
    (fun i _ => 4 - (intOf i).toNat)
  case atStart =>
    obtain ⟨h1, h2, h3, h4⟩ := start3 w 25 25 25 (sv a) (sv b) (sv zero)
    exact ⟨0, rfl, by omega, Lib.hid (by rw [mix_zero ha]; exact h1), Lib.hid h2, Lib.hid h3, Lib.hid h4⟩
  case round =>
    obtain ⟨k, rfl, hk, HT, HU, HR, HB⟩ := hrel
    by_cases h8 : k < 4
    · have hc := mix_cell HT.out h8
      have hd := set_cell HU.out hb h8
      have hfr := HT.out.frozen k
      have hl := word_lt ha k
      have hm := word_lt hb k
      have HS := Lib.hid (mix_store HT.out h8)
      generalize hx : a.getD k 0 = x at *
      generalize hy : b.getD k 0 = y at *
      have HO : Hid (bits .and .u64 (x : Int) (y : Int) = ((fAnd x y : Nat) : Int)) := Lib.hid (u64_and_nat x y hl hm)
      clear hx hy hl hm
      go_wp2
      go_region
      go_wp2
      go_roundw
      case rel =>
        rw [HO.out]
        exact ⟨k + 1, by go_num, by omega, HS, Lib.hid (HU.out.apartStore (by show w.heap.size + 1 ≠ w.heap.size; omega)), Lib.hid (HR.out.apartStore (by show w.heap.size + 1 + 1 ≠ w.heap.size; omega)), Lib.hid (below_drew (HB.out.setCell (Nat.le_refl w.heap.size) _))⟩
      case measure => simp [intOf]; omega
    · obtain ⟨z, hz⟩ : ∃ z, z = sv (andL a b) := ⟨_, rfl⟩
      have HZ := Lib.hid hz
      have HT' : Hid (Blk wr w.heap.size 25 z) := Lib.hid (by have := HT.out; rw [show k = 4 by omega] at this; rw [HZ.out]; exact this)
      have H4 : Hid (z.size = 4) := Lib.hid (by rw [HZ.out, sv4 (andL_set ha hb)])
      have H1 : Hid (z.all (·.oneCell') = true) := Lib.hid (by rw [HZ.out]; exact sv_one _)
      have hlt : ¬ ((k : Int) < 4) := by omega
      clear hz hk h8
      go_wp2_with (first | refine wpList_load_row rfl 25 _ rfl w.heap.size rfl _ _ _ _ HT'.out Try.underlying25 rfl (fit H4.out) ?_ | refine wpList_store_row rfl 25 _ _ rfl (w.heap.size + 1 + 1) z rfl rfl _ _ HR.out (fit H4.out) (Eq.trans (sv4 zero_set) (Eq.symm H4.out)) H1.out ?_)
      refine bodyPost_ret (v := .agg z) (results_cell_row rfl _ _ (w.heap.size + 1 + 1) 25 _ _ _ rfl (setRow_heap _ _ _ _ _ _ HR.out) Try.underlying25 rfl (fit H4.out)) rfl ?_
      exact ⟨by rw [HZ.out], Below_setRow HB.out (by omega) _⟩

/-- The bytes from one on, below another one. -/
def frm (x : Nat) (n : Nat) : List Nat := upto (fun c => decide (x ≤ c)) n
theorem frm_set (x n : Nat) : isSet (frm x n) := upto_set _ _
theorem frm_zero (x : Nat) : frm x x = zero := by
  have h : ∀ n, n ≤ x → upto (fun c => decide (x ≤ c)) n = zero := fun n => by
    induction n with
    | zero => intro _; rfl
    | succ n ih => intro h; unfold upto; rw [if_neg (by simp; omega)]; exact ih (by omega)
  exact h x (Nat.le_refl _)
theorem frm_low {x n : Nat} (h : n ≤ x) : frm x n = zero := by
  unfold frm
  induction n with
  | zero => rfl
  | succ n ih => unfold upto; rw [if_neg (by simp; omega)]; exact ih (by omega)
theorem frm_step {x n : Nat} (h : x ≤ n) : frm x (n + 1) = wth (frm x n) n := by
  show (if decide (x ≤ n) = true then _ else _) = _
  rw [if_pos (by simpa using h)]; rfl
theorem has_frm {x y c : Nat} (hy : y < 256) (hc : c < 256) : has (frm x (y + 1)) c = (decide (x ≤ c) && decide (c ≤ y)) := by
  unfold frm
  rw [has_upto _ _ (by omega) c hc, Bool.and_comm]
  congr 1
  exact decide_eq_decide.2 (by omega)

set_option maxRecDepth 100000 in
theorem Range_any {x y : Nat} (hx : x < 256) (hy : y < 256) (w : World) :
    Calls Try.prog 10 #[.int .u8 x, .int .u8 y] w fun e w' => e = .returned (.agg (sv (frm x (y + 1)))) ∧ Below w.heap.size w w' := by
  obtain ⟨hz, hsz⟩ := zero_of_info infoS
  rw [sv_zero] at hz
  go_enter Try.func10, Try.ntmps10
  go_wp2
  clear hz hsz
  go_loopw [13] (fun i wr => ∃ k : Nat, i = .int .i64 k ∧ (k = 0 ∨ x + k ≤ y + 1) ∧ Hid (Blk wr w.heap.size 25 (sv zero)) ∧ Hid (Blk wr (w.heap.size + 1) 25 (sv (frm x (x + k)))) ∧ Hid (Below w.heap.size w wr))
    (fun i _ => 256 - (intOf i).toNat)
  case atStart =>
    obtain ⟨h1, h2, h3⟩ := two_start w 25 (sv zero) (sv zero)
    exact ⟨0, rfl, .inl rfl, Lib.hid h1, Lib.hid (by rw [show x + 0 = x from rfl, frm_zero]; exact h2), Lib.hid h3⟩
  case round =>
    obtain ⟨k, rfl, hk, HR, HT, HB⟩ := hrel
    by_cases h8 : x + k ≤ y
    · have hlt : (k : Int) < (y : Int) - x + 1 := by omega
      have h256 : x + k < 256 := by omega
      have hv := add_any (c := x + k) HT.out (frm_set _ _) h256
      rw [Int.natCast_add] at hv
      have HV := Lib.hid hv
      clear hv
      go_wp2_with (go_at_call 25; fail)
      refine HV.out.mono ?_
      rintro e w' ⟨rfl, HT', HO⟩
      have HT2 := Lib.hid HT'
      have HO2 := Lib.hid HO
      clear HT' HO HV
      go_wp2
      go_roundw
      case rel =>
        refine ⟨k + 1, by go_num, by omega, Lib.hid (HR.out.only HO2.out (by omega)), Lib.hid ?_, Lib.hid (below_only HB.out HO2.out (by omega) HB.out.size)⟩
        rw [show x + (k + 1) = x + k + 1 by omega, frm_step (by omega)]; exact HT2.out
      case measure => simp [intOf]; omega
    · have hlt : ¬ ((k : Int) < (y : Int) - x + 1) := by omega
      obtain ⟨z, hz⟩ : ∃ z, z = sv (frm x (y + 1)) := ⟨_, rfl⟩
      have HZ := Lib.hid hz
      have HT' : Hid (Blk wr (w.heap.size + 1) 25 z) := Lib.hid (by
        have := HT.out
        rw [HZ.out]
        rcases hk with hk | hk
        · subst hk
          rw [show x + 0 = x from rfl, frm_zero] at this
          rw [frm_low (by omega)]
          exact this
        · rw [show x + k = y + 1 by omega] at this
          exact this)
      have H4 : Hid (z.size = 4) := Lib.hid (by rw [HZ.out, sv4 (frm_set _ _)])
      have H1 : Hid (z.all (·.oneCell') = true) := Lib.hid (by rw [HZ.out]; exact sv_one _)
      clear hz hk h8
      go_wp2_with (first | refine wpList_load_row rfl 25 _ rfl (w.heap.size + 1) rfl _ _ _ _ HT'.out Try.underlying25 rfl (fit H4.out) ?_ | refine wpList_store_row rfl 25 _ _ rfl w.heap.size z rfl rfl _ _ HR.out (fit H4.out) (Eq.trans (sv4 zero_set) (Eq.symm H4.out)) H1.out ?_)
      refine bodyPost_ret (v := .agg z) (results_cell_row rfl _ _ w.heap.size 25 _ _ _ rfl (setRow_heap _ _ _ _ _ _ HR.out) Try.underlying25 rfl (fit H4.out)) rfl ?_
      exact ⟨by rw [HZ.out], Below_setRow HB.out (Nat.le_refl _) _⟩
end Go.Proofs.Ytdbeohfaaonbjaa.Tb
