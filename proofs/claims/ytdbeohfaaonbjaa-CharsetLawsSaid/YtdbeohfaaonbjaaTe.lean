/-
  The reference's sets: Has, with, Range, Bytes, Not, And.
  Conditions: as each theorem says.
-/
import Derived.Test.YtdbeohfaaonbjaaTd
namespace Go.Proofs.Ytdbeohfaaonbjaa.Te
open Go.RowKit Go.Proofs.Ytdbeohfaaonbjaa.Vm Go.Proofs.Ytdbeohfaaonbjaa.Vo Go.Proofs.Ytdbeohfaaonbjaa.Bw Go.Proofs.Ytdbeohfaaonbjaa.Na Go.Proofs.Ytdbeohfaaonbjaa.Tm Go.Proofs.Ytdbeohfaaonbjaa.Ta Go.Proofs.Ytdbeohfaaonbjaa.Tb Go.Proofs.Ytdbeohfaaonbjaa.Tc Go.Proofs.Ytdbeohfaaonbjaa.Td

set_option maxRecDepth 100000 in
theorem rHas_any {c : Nat} {a : List Nat} (ha : isSet a) (hc : c < 256) (w : World) :
    Calls Try.prog 20 #[.agg (sv a), .int .u8 c] w fun e w' => e = .returned (.bool (has a c)) ∧ Below w.heap.size w w' := by
  obtain ⟨q, hq⟩ : ∃ q, q = c / 64 := ⟨_, rfl⟩
  obtain ⟨r, hr⟩ : ∃ r, r = c % 64 := ⟨_, rfl⟩
  have hq4 : q < 4 := by omega
  have hr64 : r < 64 := by omega
  obtain ⟨x, hx⟩ : ∃ x, x = a.getD q 0 := ⟨_, rfl⟩
  have hcell : (w.alloc (.cells (sv a) 25)).cell? ⟨w.heap.size, q, none⟩ = some (.int .u64 x) := by rw [(Blk.fresh w _ _).cell, sv_get (by rw [get_of ha hq4, ← hx])]
  have h1 : (c : Int) / 64 = q := by omega
  have h2 : (c : Int) % 64 = r := by omega
  have HH : Hid (has a c = x.testBit r) := Lib.hid (by rw [hx, hq, hr]; rfl)
  obtain ⟨y, hy, HY⟩ : ∃ y : Nat, (x : Int) / 2 ^ r = (y : Int) ∧ Hid (y = x / 2 ^ r) := ⟨x / 2 ^ r, by simp, Lib.hid rfl⟩
  clear hq hr hx
  go_enter Try.func20, Try.ntmps20
  go_wp2
  go_ret
  refine ⟨ret_bool ?_, below_alloc _ _⟩
  rw [HH.out, Nat.testBit_eq_decide_div_mod_eq, ← HY.out]
  have hb : ∀ z : Int, (z == 1) = decide (z = 1) := fun z => by rw [Bool.eq_iff_iff]; simp
  rw [hb]
  exact decide_eq_decide.2 (by omega)

set_option maxRecDepth 100000 in
theorem rwith_any {c : Nat} {a : List Nat} (ha : isSet a) (hc : c < 256) (w : World) :
    Calls Try.prog 26 #[.agg (sv a), .int .u8 c] w fun e w' => e = .returned (.agg (sv (wth a c))) ∧ Below w.heap.size w w' := by
  obtain ⟨hz, hsz⟩ := zero_of_info infoS
  rw [sv_zero] at hz
  obtain ⟨q, hq⟩ : ∃ q, q = c / 64 := ⟨_, rfl⟩
  obtain ⟨r, hr⟩ : ∃ r, r = c % 64 := ⟨_, rfl⟩
  have hq4 : q < 4 := by omega
  have hr64 : r < 64 := by omega
  obtain ⟨x, hx⟩ : ∃ x, x = a.getD q 0 := ⟨_, rfl⟩
  obtain ⟨k1, k2, k3⟩ := two_start w 25 (sv a) (sv zero)
  obtain ⟨W, hW⟩ : ∃ W, W = (w.alloc (.cells (sv a) 25)).alloc (.cells (sv zero) 25) := ⟨_, rfl⟩
  rw [← hW] at k1 k2 k3
  have hcell : ((w.alloc (.cells (sv a) 25)).alloc (.cells (sv zero) 25)).cell? ⟨w.heap.size, q, none⟩ = some (.int .u64 x) := by rw [← hW, k1.cell, sv_get (by rw [get_of ha hq4, ← hx])]
  have hfr : ((w.alloc (.cells (sv a) 25)).alloc (.cells (sv zero) 25)).frozen? ⟨w.heap.size, q, none⟩ = false := by rw [← hW]; exact k1.frozen q
  have h1 : (c : Int) / 64 = q := by omega
  have h2 : (c : Int) % 64 = r := by omega
  have hxl : x < 18446744073709551616 := by rw [hx]; exact word_lt ha q
  obtain ⟨y, hy, HY⟩ : ∃ y : Nat, bits .or .u64 (x : Int) (IntKind.u64.wrap (2 ^ r)) = (y : Int) ∧ Hid (y = x ||| 2 ^ r) := ⟨_, or_pow hxl hr64, Lib.hid rfl⟩
  obtain ⟨z, hzz⟩ : ∃ z, z = sv (wth a c) := ⟨_, rfl⟩
  have HZ := Lib.hid hzz
  have H4 : Hid (z.size = 4) := Lib.hid (by rw [hzz, sv4 (wth_set ha c)])
  have H1 : Hid (z.all (·.oneCell') = true) := Lib.hid (by rw [hzz]; exact sv_one _)
  have hset : (sv a).setIfInBounds q (.int .u64 (y : Int)) = z := by rw [sv_set, hzz, show wth a c = a.set q y by rw [HY.out, hx, hq, hr]; rfl]
  have k := two_start w 25 z (sv zero)
  have HT := Lib.hid k.1
  have HR := Lib.hid k.2.1
  have HB := Lib.hid k.2.2
  rw [← hzz]
  clear hq hr hx hW k1 k2 k3 hzz hsz k
  go_enter Try.func26, Try.ntmps26
  go_wp2_with (first | refine wpList_load_row rfl 25 _ rfl w.heap.size rfl _ _ _ _ HT.out Try.underlying25 rfl (fit H4.out) ?_ | refine wpList_store_row rfl 25 _ _ rfl (w.heap.size + 1) z rfl rfl _ _ HR.out (fit H4.out) (Eq.trans (sv4 zero_set) (Eq.symm H4.out)) H1.out ?_)
  refine bodyPost_ret (v := .agg z) (results_cell_row rfl _ _ (w.heap.size + 1) 25 _ _ _ rfl (setRow_heap _ _ _ _ _ _ HR.out) Try.underlying25 rfl (fit H4.out)) rfl ?_
  exact ⟨rfl, Below_setRow HB.out (by omega) _⟩

theorem Blk_row {w : World} {g : Nat} {t : TypeId} {cs cs' : Array Value} (h : Blk w g t cs) : Blk (w.setRow g cs') g t cs' := setRow_heap _ _ _ _ _ _ h
theorem Blk_other {w : World} {g k : Nat} {t : TypeId} {cs cs' : Array Value} (h : Blk w k t cs) (hk : k ≠ g) : Blk (w.setRow g cs') k t cs := (setRow_other w g k cs' hk).trans h

set_option maxRecDepth 100000 in
theorem rRange_any {x y : Nat} (hx : x < 256) (hy : y < 256) (w : World) :
    Calls Try.prog 11 #[.int .u8 x, .int .u8 y] w fun e w' => e = .returned (.agg (sv (frm x (y + 1)))) ∧ Below w.heap.size w w' := by
  obtain ⟨hz, hsz⟩ := zero_of_info infoS
  rw [sv_zero] at hz
  go_enter Try.func11, Try.ntmps11
  go_wp2
  clear hz hsz
  go_loopw [6] (fun i wr => ∃ k : Nat, i = .int .i64 k ∧ (k = x ∨ k ≤ y + 1) ∧ x ≤ k ∧ Hid (Blk wr w.heap.size 25 (sv zero)) ∧ Hid (Blk wr (w.heap.size + 1) 25 (sv (frm x k))) ∧ Hid (Below w.heap.size w wr))
    (fun i _ => 256 - (intOf i).toNat)
  case atStart =>
    obtain ⟨h1, h2, h3⟩ := two_start w 25 (sv zero) (sv zero)
    exact ⟨x, rfl, .inl rfl, Nat.le_refl _, Lib.hid h1, Lib.hid (by rw [frm_zero]; exact h2), Lib.hid h3⟩
  case round =>
    obtain ⟨k, rfl, hk, hxk, HR, HT, HB⟩ := hrel
    by_cases h8 : k ≤ y
    · have h256 : k < 256 := by omega
      have H4 : Hid ((sv (frm x k)).size = 4) := Lib.hid (sv4 (frm_set _ _))
      have HV : Hid (∀ u, Calls Try.prog 26 #[.agg (sv (frm x k)), .int .u8 k] u fun e w' => e = .returned (.agg (sv (frm x (k + 1)))) ∧ Below u.heap.size u w') := Lib.hid (fun u => by rw [frm_step hxk]; exact rwith_any (frm_set _ _) h256 u)
      have H5 : Hid ((sv (frm x (k + 1))).size = 4) := Lib.hid (sv4 (frm_set _ _))
      have H6 : Hid ((sv (frm x (k + 1))).all (·.oneCell') = true) := Lib.hid (sv_one _)
      obtain ⟨z1, hz1⟩ : ∃ z, z = sv (frm x (k + 1)) := ⟨_, rfl⟩
      rw [← hz1] at HV H5 H6
      have HZ1 := Lib.hid hz1
      generalize sv (frm x k) = z at *
      clear hz1
      go_wp2_with (first | refine wpList_load_row rfl 25 _ rfl (w.heap.size + 1) rfl _ _ _ _ HT.out Try.underlying25 rfl (fit H4.out) ?_ | (go_at_call 26; refine (HV.out _).mono ?_; rintro e w1 ⟨rfl, b1⟩; have B1 := Lib.hid b1; clear b1) | refine wpList_store_row rfl 25 _ _ rfl (w.heap.size + 1) z1 rfl rfl _ _ (HT.out.below B1.out) (fit H5.out) (Eq.trans H4.out (Eq.symm H5.out)) H6.out ?_)
      go_roundw
      case rel =>
        have hsz := HB.out.size
        refine ⟨k + 1, by go_num, by omega, by omega, Lib.hid (Blk_other (HR.out.below B1.out) (by omega)), Lib.hid ?_, Lib.hid (Below_setRow (HB.out.trans (B1.out.mono hsz)) (by omega) _)⟩
        rw [← HZ1.out]; exact Blk_row (HT.out.below B1.out)
      case measure => simp [intOf]; omega
    · have hlt : ¬ ((k : Int) ≤ (y : Int)) := by omega
      obtain ⟨z, hz⟩ : ∃ z, z = sv (frm x (y + 1)) := ⟨_, rfl⟩
      have HZ := Lib.hid hz
      have HT' : Hid (Blk wr (w.heap.size + 1) 25 z) := Lib.hid (by
        have := HT.out
        rw [HZ.out]
        by_cases hxy : x ≤ y
        · rw [show k = y + 1 by omega] at this; exact this
        · rw [show k = x by omega, frm_zero] at this
          rw [frm_low (by omega)]; exact this)
      have H4 : Hid (z.size = 4) := Lib.hid (by rw [HZ.out, sv4 (frm_set _ _)])
      have H1 : Hid (z.all (·.oneCell') = true) := Lib.hid (by rw [HZ.out]; exact sv_one _)
      clear hz hk h8
      go_wp2_with (first | refine wpList_load_row rfl 25 _ rfl (w.heap.size + 1) rfl _ _ _ _ HT'.out Try.underlying25 rfl (fit H4.out) ?_ | refine wpList_store_row rfl 25 _ _ rfl w.heap.size z rfl rfl _ _ HR.out (fit H4.out) (Eq.trans (sv4 zero_set) (Eq.symm H4.out)) H1.out ?_)
      refine bodyPost_ret (v := .agg z) (results_cell_row rfl _ _ w.heap.size 25 _ _ _ rfl (setRow_heap _ _ _ _ _ _ HR.out) Try.underlying25 rfl (fit H4.out)) rfl ?_
      exact ⟨by rw [HZ.out], Below_setRow HB.out (Nat.le_refl _) _⟩

set_option maxRecDepth 100000 in
theorem rBytes_any {a : List Nat} (ha : isSet a) (w : World) :
    Calls Try.prog 21 #[.agg (sv a)] w fun e w' => e = .returned (.string ⟨(bts a).toArray⟩) ∧ Below w.heap.size w w' := by
  obtain ⟨W, hW⟩ : ∃ W, W = w.alloc (.cells (sv a) 25) := ⟨_, rfl⟩
  have HX : Hid (Blk W w.heap.size 25 (sv a)) := Lib.hid (by rw [hW]; exact Blk.fresh w _ _)
  have HS : Hid (W.heap.size = w.heap.size + 1) := Lib.hid (by rw [hW]; exact size_alloc _ _)
  have HWB : Hid (Below w.heap.size w W) := Lib.hid (by rw [hW]; exact below_alloc _ _)
  have HW := Lib.hid hW
  clear hW
  obtain ⟨S, hS⟩ : ∃ S, S = bts a := ⟨_, rfl⟩
  have HSS := Lib.hid hS
  rw [← hS]
  clear hS
  go_enter Try.func21, Try.ntmps21
  go_wp2
  go_loopw [4, 3] (fun i v wr => ∃ k : Nat, i = .int .i64 k ∧ k ≤ 256 ∧ Hid (ob (w.heap.size + 1) wr v (btTo a k)) ∧ Hid (Below (w.heap.size + 1) W wr))
    (fun i _ _ => 256 - (intOf i).toNat)
  case atStart =>
    have hW := HW.out
    have hbl := Below.refl (w.heap.size + 1) W
    subst hW
    exact ⟨0, rfl, by omega, Lib.hid (ob_nil _ _), Lib.hid hbl⟩
  case round =>
    obtain ⟨k, rfl, hk, HO, HB⟩ := hrel
    by_cases h8 : k < 256
    · have HT : Hid (Blk wr w.heap.size 25 (sv a)) := Lib.hid (Blk_low HX.out HB.out (by omega))
      have H4 : Hid ((sv a).size = 4) := Lib.hid (sv4 ha)
      have HA : Hid (∀ w, Calls Try.prog 20 #[.agg (sv a), .int .u8 k] w fun e w' => e = .returned (.bool (has a k)) ∧ Below w.heap.size w w') := Lib.hid (fun w => rHas_any ha h8 w)
      have HL := Lib.hid (btTo_len a k)
      obtain ⟨L1, hL1⟩ : ∃ L1, L1 = btTo a (k + 1) := ⟨_, rfl⟩
      have HL1 := Lib.hid hL1
      have HY : Hid (has a k = true → L1 = btTo a k ++ [UInt8.ofNat k]) := Lib.hid (by rw [hL1]; exact btTo_yes)
      have HN : Hid (has a k = false → L1 = btTo a k) := Lib.hid (by rw [hL1]; exact btTo_no)
      clear hL1
      generalize has a k = t at *
      generalize sv a = z at *
      generalize btTo a k = L at *
      have hsz : w.heap.size + 1 ≤ wr.heap.size := by rw [← HS.out]; exact HB.out.size
      cases ht : t
      · rw [ht] at HA
        have HE := Lib.hid (HN.out ht)
        clear HY HN ht hsz
        go_wp2_with (first | refine wpList_load_row rfl 25 _ rfl w.heap.size rfl _ _ _ _ HT.out Try.underlying25 rfl (fit H4.out) ?_ | (go_at_call 20; refine (HA.out _).mono ?_; rintro e w' ⟨rfl, b1⟩; have B1 := Lib.hid b1; clear b1))
        go_roundw
        case rel =>
          have hsz : w.heap.size + 1 ≤ wr.heap.size := by rw [← HS.out]; exact HB.out.size
          exact ⟨k + 1, by go_num, by omega, Lib.hid (by rw [← HL1.out, HE.out]; exact HO.out.below B1.out), Lib.hid (HB.out.trans (B1.out.mono hsz))⟩
        case measure => simp [intOf]; omega
      · rw [ht] at HA
        have HE := Lib.hid (HY.out ht)
        have HC : Hid (#[Value.int .u8 (k : Int)] = (Bs [UInt8.ofNat k]).toArray) := Lib.hid (by rw [byte_val h8]; rfl)
        have HZ := Lib.hid hsz
        have HG : Hid (w.heap.size + 1 ≤ W.heap.size) := Lib.hid (by rw [HS.out]; exact Nat.le_refl _)
        have HLL : Hid (L.length + [UInt8.ofNat k].length ≤ 1000000000) := Lib.hid (by have := HL.out; simp; omega)
        clear HY HN ht hsz
        go_wp2_with (first | refine wpList_load_row rfl 25 _ rfl w.heap.size rfl _ _ _ _ HT.out Try.underlying25 rfl (fit H4.out) ?_ | (go_at_call 20; refine (HA.out _).mono ?_; rintro e w' ⟨rfl, b1⟩; have B1 := Lib.hid b1; clear b1) | (at_builtin; refine wpList_ob rfl _ _ rfl (HB.out.trans (B1.out.mono HZ.out)) HG.out (by rfl) (HO.out.below B1.out) [UInt8.ofNat k] HC.out rfl (by rfl) HLL.out ?_; intro v2 w2 h2 b2; have H2 := Lib.hid h2; have B2 := Lib.hid b2; clear h2 b2))
        go_roundw
        case rel => exact ⟨k + 1, by go_num, by omega, Lib.hid (by rw [← HL1.out, HE.out]; exact H2.out), B2⟩
        case measure => simp [intOf]; omega
    · have hlt : ¬ ((k : Int) < 256) := by omega
      have HK := Lib.hid (show k = 256 by omega)
      have hcv := ob_string HO.out
      clear hk h8
      go_wp2
      go_ret
      exact ⟨ret_str (by rw [HK.out, btTo_all, HSS.out]), HWB.out.trans (HB.out.mono (by omega))⟩

theorem upto_yes {p : Nat → Bool} {n : Nat} (h : p n = true) : upto p (n + 1) = wth (upto p n) n := if_pos h
theorem upto_no {p : Nat → Bool} {n : Nat} (h : p n = false) : upto p (n + 1) = upto p n := if_neg (by simp [h])
theorem upto_not {a : List Nat} (ha : isSet a) : upto (fun c => !has a c) 256 = notL a := set_ext (upto_set _ _) (notL_set ha) fun c hc => by
  rw [has_upto _ _ (Nat.le_refl _) c hc, has_not ha hc, decide_eq_true hc, Bool.true_and]
theorem upto_and {a b : List Nat} (ha : isSet a) (hb : isSet b) : upto (fun c => has a c && has b c) 256 = andL a b := set_ext (upto_set _ _) (andL_set ha hb) fun c hc => by
  rw [has_upto _ _ (Nat.le_refl _) c hc, has_and hc, decide_eq_true hc, Bool.true_and]

set_option maxRecDepth 100000 in
theorem rNot_any {a : List Nat} (ha : isSet a) (w : World) :
    Calls Try.prog 13 #[.agg (sv a)] w fun e w' => e = .returned (.agg (sv (notL a))) ∧ Below w.heap.size w w' := by
  obtain ⟨hz, hsz⟩ := zero_of_info infoS
  rw [sv_zero] at hz
  obtain ⟨p, hp⟩ : ∃ p : Nat → Bool, p = fun c => !has a c := ⟨_, rfl⟩
  have HP := Lib.hid hp
  clear hp
  go_enter Try.func13, Try.ntmps13
  go_wp2
  clear hz hsz
  go_loopw [4] (fun i wr => ∃ k : Nat, i = .int .i64 k ∧ k ≤ 256 ∧ Hid (Blk wr w.heap.size 25 (sv a)) ∧ Hid (Blk wr (w.heap.size + 1) 25 (sv zero)) ∧ Hid (Blk wr (w.heap.size + 1 + 1) 25 (sv (upto p k))) ∧ Hid (Below w.heap.size w wr))
    (fun i _ => 256 - (intOf i).toNat)
  case atStart =>
    obtain ⟨h1, h2, h3, h4⟩ := start3 w 25 25 25 (sv a) (sv zero) (sv zero)
    exact ⟨0, rfl, by omega, Lib.hid h1, Lib.hid h2, Lib.hid h3, Lib.hid h4⟩
  case round =>
    obtain ⟨k, rfl, hk, HU, HR, HT, HB⟩ := hrel
    by_cases h8 : k < 256
    · have H0 : Hid ((sv a).size = 4) := Lib.hid (sv4 ha)
      have H4 : Hid ((sv (upto p k)).size = 4) := Lib.hid (sv4 (upto_set _ _))
      have HA : Hid (∀ w, Calls Try.prog 20 #[.agg (sv a), .int .u8 k] w fun e w' => e = .returned (.bool (has a k)) ∧ Below w.heap.size w w') := Lib.hid (fun w => rHas_any ha h8 w)
      have HV : Hid (∀ u, Calls Try.prog 26 #[.agg (sv (upto p k)), .int .u8 k] u fun e w' => e = .returned (.agg (sv (wth (upto p k) k))) ∧ Below u.heap.size u w') := Lib.hid (fun u => rwith_any (upto_set _ _) h8 u)
      have H5 : Hid ((sv (wth (upto p k) k)).size = 4) := Lib.hid (sv4 (wth_set (upto_set _ _) _))
      have H6 : Hid ((sv (wth (upto p k) k)).all (·.oneCell') = true) := Lib.hid (sv_one _)
      have HY : Hid (has a k = false → upto p (k + 1) = wth (upto p k) k) := Lib.hid (fun h => upto_yes (by rw [HP.out]; simp [h]))
      have HN : Hid (has a k = true → upto p (k + 1) = upto p k) := Lib.hid (fun h => upto_no (by rw [HP.out]; simp [h]))
      have hsz := HB.out.size
      have HZS := Lib.hid hsz
      cases ht : has a k
      · have HE := Lib.hid (HY.out ht)
        rw [ht] at HA
        obtain ⟨z1, hz1⟩ : ∃ z, z = sv (wth (upto p k) k) := ⟨_, rfl⟩
        rw [← hz1] at HV H5 H6
        have HZ1 := Lib.hid hz1
        clear hz1 HY HN ht hsz
        generalize sv a = y at *
        obtain ⟨z, hz⟩ : ∃ z, z = sv (upto p k) := ⟨_, rfl⟩
        rw [← hz] at HT H4 HV
        clear hz
        go_wp2_with (first | refine wpList_load_row rfl 25 _ rfl w.heap.size rfl _ _ _ _ HU.out Try.underlying25 rfl (fit H0.out) ?_ | (go_at_call 20; refine (HA.out _).mono ?_; rintro e w1 ⟨rfl, b1⟩; have B1 := Lib.hid b1; clear b1) | refine wpList_load_row rfl 25 _ rfl (w.heap.size + 1 + 1) rfl _ _ _ _ (HT.out.below B1.out) Try.underlying25 rfl (fit H4.out) ?_ | (go_at_call 26; refine (HV.out _).mono ?_; rintro e w2 ⟨rfl, b2⟩; have B2 := Lib.hid b2; clear b2) | refine wpList_store_row rfl 25 _ _ rfl (w.heap.size + 1 + 1) z1 rfl rfl _ _ ((HT.out.below B1.out).below B2.out) (fit H5.out) (Eq.trans H4.out (Eq.symm H5.out)) H6.out ?_)
        go_roundw
        case rel =>
          refine ⟨k + 1, by go_num, by omega, Lib.hid (Blk_other ((HU.out.below B1.out).below B2.out) (by omega)), Lib.hid (Blk_other ((HR.out.below B1.out).below B2.out) (by omega)), Lib.hid ?_, Lib.hid (Below_setRow (HB.out.trans ((grows B1.out B2.out).mono HZS.out)) (by omega) _)⟩
          rw [HE.out, ← HZ1.out]; exact Blk_row ((HT.out.below B1.out).below B2.out)
        case measure => simp [intOf]; omega
      · have HE := Lib.hid (HN.out ht)
        rw [ht] at HA
        clear HY HN ht hsz
        generalize sv a = y at *
        go_wp2_with (first | refine wpList_load_row rfl 25 _ rfl w.heap.size rfl _ _ _ _ HU.out Try.underlying25 rfl (fit H0.out) ?_ | (go_at_call 20; refine (HA.out _).mono ?_; rintro e w1 ⟨rfl, b1⟩; have B1 := Lib.hid b1; clear b1))
        go_roundw
        case rel =>
          refine ⟨k + 1, by go_num, by omega, Lib.hid (HU.out.below B1.out), Lib.hid (HR.out.below B1.out), Lib.hid ?_, Lib.hid (HB.out.trans (B1.out.mono HZS.out))⟩
          rw [HE.out]; exact HT.out.below B1.out
        case measure => simp [intOf]; omega
    · have hlt : ¬ ((k : Int) < 256) := by omega
      obtain ⟨z, hz⟩ : ∃ z, z = sv (notL a) := ⟨_, rfl⟩
      have HZ := Lib.hid hz
      have HT' : Hid (Blk wr (w.heap.size + 1 + 1) 25 z) := Lib.hid (by
        have := HT.out
        rw [show k = 256 by omega, HP.out, upto_not ha] at this
        rw [HZ.out]; exact this)
      have H4 : Hid (z.size = 4) := Lib.hid (by rw [HZ.out, sv4 (notL_set ha)])
      have H1 : Hid (z.all (·.oneCell') = true) := Lib.hid (by rw [HZ.out]; exact sv_one _)
      clear hz hk h8
      go_wp2_with (first | refine wpList_load_row rfl 25 _ rfl (w.heap.size + 1 + 1) rfl _ _ _ _ HT'.out Try.underlying25 rfl (fit H4.out) ?_ | refine wpList_store_row rfl 25 _ _ rfl (w.heap.size + 1) z rfl rfl _ _ HR.out (fit H4.out) (Eq.trans (sv4 zero_set) (Eq.symm H4.out)) H1.out ?_)
      refine bodyPost_ret (v := .agg z) (results_cell_row rfl _ _ (w.heap.size + 1) 25 _ _ _ rfl (setRow_heap _ _ _ _ _ _ HR.out) Try.underlying25 rfl (fit H4.out)) rfl ?_
      exact ⟨by rw [HZ.out], Below_setRow HB.out (by omega) _⟩
end Go.Proofs.Ytdbeohfaaonbjaa.Te
