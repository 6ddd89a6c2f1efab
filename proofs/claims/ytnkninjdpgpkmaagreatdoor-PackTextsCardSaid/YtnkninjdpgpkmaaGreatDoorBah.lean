/-
  Fits and the reference's Fits; Ints.
  Conditions: as each theorem says.
-/
import Derived.Test.YtnkninjdpgpkmaaGreatDoorBaf
import Derived.Deep.QuietTactic
import Derived.BigQuiet
set_option linter.unusedSimpArgs false
namespace Go.Proofs.YtnkninjdpgpkmaaGreatDoor.Nh
open Go.RowKit Go.Proofs.YtnkninjdpgpkmaaGreatDoor.Vm Go.Proofs.YtnkninjdpgpkmaaGreatDoor.Na Go.Proofs.YtnkninjdpgpkmaaGreatDoor.Nm Go.Proofs.YtnkninjdpgpkmaaGreatDoor.Bw Go.Proofs.YtnkninjdpgpkmaaGreatDoor.Ni Go.Proofs.YtnkninjdpgpkmaaGreatDoor.Nc Go.Proofs.YtnkninjdpgpkmaaGreatDoor.Nd Go.Proofs.YtnkninjdpgpkmaaGreatDoor.Ne Go.Proofs.YtnkninjdpgpkmaaGreatDoor.Nf Go.Proofs.YtnkninjdpgpkmaaGreatDoor.Ng

/-- What Fits answers of lengths that have codes: their sum, how many have a code, how many one of length 1. -/
def fitR (k c c1 : Nat) (lone : Bool) : Int := if k = 32768 then 0 else if lone = true ∧ (c = 0 ∨ c = 1 ∧ c1 = 1) then 0 else if c = 0 then 17 else 8
def fit (n : Nat) (f : Nat → Int) (lone : Bool) : Int := if err n f ≠ 0 then err n f else fitR (ksum (L n f) 16) (codd (L n f) 16) (ct (L n f) 1) lone
theorem fit_err {n : Nat} {f : Nat → Int} {lone : Bool} (h : err n f ≠ 0) : fit n f lone = err n f := if_pos h
theorem fit_ok {n : Nat} {f : Nat → Int} {lone : Bool} (h : err n f = 0) : fit n f lone = fitR (ksum (L n f) 16) (codd (L n f) 16) (ct (L n f) 1) lone := if_neg (by omega)
theorem half_steps (l : List Nat) : ∀ N, ct l 1 ≤ codd l (N + 2) ∧ ct l 1 * 16384 ≤ ksum l (N + 2) ∧ ksum l (N + 2) ≤ ct l 1 * 16384 + (codd l (N + 2) - ct l 1) * 8192
  | 0 => by
    have e1 : codd l 2 = ct l 1 := by simp [codd, ct_zero]
    have e2 : ksum l 2 = ct l 1 * 16384 := by simp [ksum, ct_zero]
    rw [e1, e2]; omega
  | N + 1 => by
    obtain ⟨h1, h2, h3⟩ := half_steps l N
    have e1 : codd l (N + 1 + 2) = codd l (N + 2) + ct l (N + 2) := rfl
    have e2 : ksum l (N + 1 + 2) = ksum l (N + 2) + ct l (N + 2) * 2 ^ (15 - (N + 2)) := rfl
    have hp : 2 ^ (15 - (N + 2)) ≤ 2 ^ 13 := Nat.pow_le_pow_right (by omega) (by omega)
    have h4 : ct l (N + 2) * 2 ^ (15 - (N + 2)) ≤ ct l (N + 2) * 8192 := Nat.mul_le_mul_left _ hp
    rw [e1, e2]; omega
/-- One code: it has one bit just if the sum is a half. -/
theorem one_half {l : List Nat} (h : codd l 16 = 1) : ct l 1 = 1 ↔ ksum l 16 = 16384 := by
  have := half_steps l 14
  rw [show 14 + 2 = 16 from rfl, h] at this
  omega

set_option maxHeartbeats 400000 in
set_option maxRecDepth 100000 in
theorem Fits_any {A : Option Addr} {n cap : Nat} {f : Nat → Int} (lone : Bool) (hn : n ≤ 9223372036854775807) {w : World} (HC : Hid (row w A n f)) :
    Calls Tryz.prog 168 #[.slice A n cap, .bool lone] w fun e w' => e = .returned (.int .i64 (fit n f lone)) ∧ Below w.heap.size w w' := by
  have hU := uncodable_any (cap := cap) hn HC
  by_cases he : err n f = 0
  · rw [fit_ok he]
    obtain ⟨h1, h2, h3⟩ := err_zero he
    obtain ⟨s, hs⟩ : ∃ s, s = ksum (L n f) 16 := ⟨_, rfl⟩
    obtain ⟨c, hc⟩ : ∃ c, c = codd (L n f) 16 := ⟨_, rfl⟩
    obtain ⟨c1, hc1⟩ : ∃ c1, c1 = ct (L n f) 1 := ⟨_, rfl⟩
    have hcb : c ≤ 16 * 320 := by rw [hc]; exact Nat.le_trans (codd_le _ 16) (Nat.mul_le_mul_left _ (by rw [L_length]; exact h1))
    have hc1b : c1 ≤ 320 := by rw [hc1]; exact Nat.le_trans (ct_le _ 1) (by rw [L_length]; exact h1)
    rw [← hs, ← hc, ← hc1]
    rw [← hs] at h3
    have HS := Lib.hid hs
    have HCo := Lib.hid hc
    have HC1' := Lib.hid hc1
    clear hs hc hc1
    rw [he] at hU
    have HU := Lib.hid hU
    have HF := Lib.hid h2
    obtain ⟨hz, hsz⟩ := zero_of_info infoC
    rw [arr_zero] at hz
    have HZ := Lib.hid hsz
    clear hU h2 he hsz
    go_enter Tryz.func168, Tryz.ntmps168
    go_wp2_with fail
    refine HU.out.mono ?_
    rintro e w1 ⟨rfl, b1⟩
    have HC1 := Lib.hid (HC.out.below b1)
    have B1 := Lib.hid b1
    clear b1
    go_wp2_with fail
    refine (count_n h1 HF.out HC1).mono ?_
    rintro e w2 ⟨rfl, b2⟩
    have B2 := Lib.hid (grows B1.out b2)
    clear b2
    obtain ⟨l, hl⟩ : ∃ l, l = L n f := ⟨_, rfl⟩
    have hln : Hid (l.length = n) := Lib.hid (by rw [hl, L_length])
    rw [← hl] at HS HCo HC1' ⊢
    obtain ⟨C, hC⟩ : ∃ C, C = arr 16 (fun i => (ct l i : Int)) := ⟨_, rfl⟩
    obtain ⟨Z, hZ⟩ : ∃ Z, Z = arr 16 (fun _ => 0) := ⟨_, rfl⟩
    have q1 := Lib.hid (show (Tryz.prog.info? 211).map (·.size) = some C.size by rw [hC, arr_size]; exact HZ.out)
    have q2 := Lib.hid (show Z.size = C.size by rw [hC, hZ, arr_size, arr_size])
    have q3 := Lib.hid (show C.all (·.oneCell') = true by rw [hC]; exact arr_one 16 _)
    have hK : ∀ u, Calls Tryz.prog 183 #[.agg C] u fun e w' => e = .returned (.int .i64 (ksum l 16)) ∧ Below u.heap.size u w' := fun u => by
      rw [hC]; exact kraft_any (by rw [hln.out]; exact h1) u
    have HK := Lib.hid hK
    rw [← hC]
    rw [← hZ] at hz
    have HCC := Lib.hid hC
    clear hC hZ hl hK HC1
    go_wp2_with (refine wpList_store_row rfl 211 _ _ rfl w2.heap.size C rfl rfl _ _ (Blk.fresh w2 211 Z) q1.out q2.out q3.out ?_; rw [World.setRow_alloc_new])
    go_loopw [16, 7] (fun i c wr => ∃ k : Nat, i = .int .i64 k ∧ c = .int .i64 (codd l k) ∧ k ≤ 16 ∧ Hid (Blk wr w2.heap.size 211 C) ∧ Hid (Below w.heap.size w wr)) (fun i _ _ => 16 - (intOf i).toNat)
    case atStart => exact ⟨0, rfl, rfl, by omega, Lib.hid (Blk.fresh w2 _ _), Lib.hid (grows B2.out (below_alloc _ _))⟩
    case round =>
      obtain ⟨k, rfl, rfl, hk, HT, HB⟩ := hrel
      clear hz
      by_cases hk16 : k < 16
      · have hcl : codd l k ≤ 16 * 320 := Nat.le_trans (codd_le l k) (Nat.mul_le_mul (by omega) (by rw [hln.out]; exact h1))
        have hctl : ct l k ≤ 320 := Nat.le_trans (ct_le l k) (by rw [hln.out]; exact h1)
        have hty : wr.cell? ⟨w2.heap.size, k, none⟩ = some (.int .i64 (ct l k)) := by rw [HT.out.cell, HCC.out, arr_get _ hk16]
        go_wp2
        go_roundw
        case rel => exact ⟨k + 1, by go_num, by rw [codd]; simp, by omega, HT, HB⟩
        case measure => simp [intOf]; omega
      · have hty : wr.cell? ⟨w2.heap.size, 1, none⟩ = some (.int .i64 c1) := by rw [HC1'.out, HT.out.cell, HCC.out, arr_get _ (by omega)]
        have HK' := Lib.hid (HK.out wr)
        obtain rfl : k = 16 := by omega
        rw [← HCo.out]
        rw [← HS.out] at HK'
        have q4 := Lib.hid (show ∀ g, Below wr.heap.size wr g → g.cell? ⟨w2.heap.size, 1, none⟩ = some (.int .i64 c1) from fun g hg => (HT.out.below hg).cell 1 |>.trans ((HT.out.cell 1).symm.trans hty))
        clear hty
        go_wp2_with (refine wpList_load_row rfl 211 _ rfl w2.heap.size rfl _ _ _ _ HT.out Tryz.underlying211 rfl q1.out ?_)
        refine HK'.out.mono ?_
        rintro e w4 ⟨rfl, b4⟩
        have hty := q4.out w4 b4
        have B4 := Lib.hid (grows HB.out b4)
        clear b4
        by_cases hs : s = 32768
        · subst hs
          go_wp2
          go_ret
          exact ⟨ret_i64 (by simp [fitR]), B4.out⟩
        · have hs' : ((s : Int) == 32768) = false := by simp; omega
          rcases lone with _ | _
          · rcases Nat.eq_zero_or_pos c with rfl | h0
            · go_wp2
              go_ret
              exact ⟨ret_i64 (by simp [fitR, hs]), B4.out⟩
            · have h0' : ((c : Int) == 0) = false := by simp; omega
              have h0'' : ¬ c = 0 := by omega
              go_wp2
              go_ret
              exact ⟨ret_i64 (by simp [fitR, hs, h0'']), B4.out⟩
          · rcases (show c = 0 ∨ c = 1 ∨ 2 ≤ c by omega) with rfl | rfl | h0
            · go_wp2
              go_ret
              exact ⟨ret_i64 (by simp [fitR, hs]), B4.out⟩
            · by_cases h1 : c1 = 1
              · subst h1
                go_wp2
                go_ret
                exact ⟨ret_i64 (by simp [fitR, hs]), B4.out⟩
              · have h1' : ((c1 : Int) == 1) = false := by simp; omega
                go_wp2
                go_ret
                exact ⟨ret_i64 (by simp [fitR, hs, h1]), B4.out⟩
            · have h0' : ((c : Int) == 0) = false := by simp; omega
              have h0'' : ¬ c = 0 := by omega
              have h1' : ((c : Int) == 1) = false := by simp; omega
              have h1'' : ¬ c = 1 := by omega
              go_wp2
              go_ret
              exact ⟨ret_i64 (by simp [fitR, hs, h0'', h1'']), B4.out⟩
  · rw [fit_err he]
    have HU := Lib.hid hU
    obtain ⟨e, hee⟩ : ∃ e, e = err n f := ⟨_, rfl⟩
    rw [← hee] at HU he ⊢
    clear hee HC hU
    go_enter Tryz.func168, Tryz.ntmps168
    go_wp2_with fail
    refine HU.out.mono ?_
    rintro e w' ⟨rfl, b1⟩
    go_wp2
    go_ret
    exact ⟨rfl, b1⟩

theorem fit_half {l : List Nat} (lone : Bool) (s c : Nat) (hs : s = ksum l 16) (hc : c = codd l 16) : fitR s c (ct l 1) lone = if s = 32768 then 0 else if lone = true ∧ (c = 0 ∨ c = 1 ∧ s = 16384) then 0 else if c = 0 then 17 else 8 := by
  unfold fitR
  by_cases h : c = 1
  · have := one_half (l := l) (by rw [← hc, h])
    simp only [this, ← hs]
  · simp [h]

set_option maxHeartbeats 400000 in
set_option maxRecDepth 100000 in
theorem rFits_any {A : Option Addr} {n cap : Nat} {f : Nat → Int} (lone : Bool) (hn : n ≤ 9223372036854775807) {w : World} (HC : Hid (row w A n f)) :
    Calls Tryz.prog 121 #[.slice A n cap, .bool lone] w fun e w' => e = .returned (.int .i64 (fit n f lone)) ∧ Below w.heap.size w w' := by
  by_cases he : err n f = 0
  · rw [fit_ok he]
    obtain ⟨h1, h2, h3⟩ := err_zero he
    have HO := Lib.hid (rCodes_ok (cap := cap) he HC)
    have hK := fun u HC => rKraft_any (A := A) (cap := cap) hn (w := u) (f := f) HC
    rw [kra_ok (bad_ok h1 h2)] at hK
    have HK := Lib.hid hK
    have HR := Lib.hid (L_row h2 HC.out)
    obtain ⟨s, hs⟩ : ∃ s, s = ksum (L n f) 16 := ⟨_, rfl⟩
    obtain ⟨c, hc⟩ : ∃ c, c = codd (L n f) 16 := ⟨_, rfl⟩
    have hcb : c ≤ 16 * 320 := by rw [hc]; exact Nat.le_trans (codd_le _ 16) (Nat.mul_le_mul_left _ (by rw [L_length]; exact h1))
    rw [← hs, ← hc, fit_half lone s c hs hc]
    rw [← hs] at h3 HK
    have HS := Lib.hid hs
    have HCo := Lib.hid hc
    have H15 := Lib.hid (L_le h2)
    clear hs hc hK h2 he
    go_enter Tryz.func121, Tryz.ntmps121
    go_wp2_with fail
    refine HO.out.mono ?_
    rintro e w1 ⟨g, rfl, _, _, b1⟩
    have B1 := Lib.hid b1
    clear b1
    go_wp2_with fail
    refine (HK.out _ (Lib.hid (HC.out.below B1.out))).mono ?_
    rintro e w1 ⟨rfl, rfl⟩
    obtain ⟨l, hl⟩ : ∃ l, l = L n f := ⟨_, rfl⟩
    have hln : Hid (l.length = n) := Lib.hid (by rw [hl, L_length])
    rw [← hl] at HS HCo HR H15
    clear hl HO HK
    by_cases hs : s = 32768
    · subst hs
      go_wp2
      go_ret
      exact ⟨ret_i64 (by simp), B1.out⟩
    · have hs' : ((s : Int) == 32768) = false := by simp; omega
      go_wp2
      go_loopw [9, 8] (fun i c wr => ∃ k : Nat, i = .int .i64 k ∧ c = .int .i64 (codd (l.take k) 16) ∧ k ≤ n ∧ wr = w1) (fun i _ _ => n - (intOf i).toNat)
      case atStart => exact ⟨0, rfl, by simp [codd_nil], by omega, rfl⟩
      case round =>
        obtain ⟨k, rfl, rfl, hk, rfl⟩ := hrel
        by_cases hkn : k < n
        · have hkl : Hid (k < l.length) := Lib.hid (by rw [hln.out]; exact hkn)
          obtain ⟨b, off, rfl, hbl, hc0⟩ := HR.out.get (k := k) hkl.out
          have hc := (B1.out.cell (p := ⟨b, off + k, none⟩) hbl).trans hc0
          clear hc0
          have hcl : codd (l.take k) 16 ≤ 16 * 320 := Nat.le_trans (codd_le _ 16) (Nat.mul_le_mul_left _ (by rw [List.length_take]; omega))
          have HN := Lib.hid (codd_next hkl.out 16)
          have hx15 := H15.out k
          obtain ⟨x, hx⟩ : ∃ x, x = nth l k := ⟨_, rfl⟩
          rw [← hx] at hc HN hx15
          clear hx
          rcases Nat.eq_zero_or_pos x with rfl | h0
          · go_wp2
            go_roundw
            case rel => exact ⟨k + 1, by go_num, by rw [HN.out]; simp, by omega, trivial⟩
            case measure => simp [intOf]; omega
          · go_wp2
            go_roundw
            case rel => exact ⟨k + 1, by go_num, by rw [HN.out, if_pos (by omega)]; simp, by omega, trivial⟩
            case measure => simp [intOf]; omega
        · have hk8 := Lib.hid (show k = l.length by rw [hln.out]; omega)
          have HE : Hid (codd (l.take k) 16 = c) := Lib.hid (by rw [hk8.out, List.take_length, HCo.out])
          rw [HE.out]
          rcases lone with _ | _
          · rcases Nat.eq_zero_or_pos c with rfl | h0
            · go_wp2
              go_ret
              exact ⟨ret_i64 (by simp [hs]), B1.out⟩
            · have h0' : ((c : Int) == 0) = false := by simp; omega
              have h0'' : ¬ c = 0 := by omega
              go_wp2
              go_ret
              exact ⟨ret_i64 (by simp [hs, h0'']), B1.out⟩
          · rcases (show c = 0 ∨ c = 1 ∨ 2 ≤ c by omega) with rfl | rfl | h0
            · go_wp2
              go_ret
              exact ⟨ret_i64 (by simp [hs]), B1.out⟩
            · by_cases h1 : s = 16384
              · subst h1
                go_wp2
                go_ret
                exact ⟨ret_i64 (by simp), B1.out⟩
              · have h1' : ((s : Int) == 16384) = false := by simp; omega
                go_wp2
                go_ret
                exact ⟨ret_i64 (by simp [hs, h1]), B1.out⟩
            · have h0' : ((c : Int) == 0) = false := by simp; omega
              have h0'' : ¬ c = 0 := by omega
              have h1' : ((c : Int) == 1) = false := by simp; omega
              have h1'' : ¬ c = 1 := by omega
              go_wp2
              go_ret
              exact ⟨ret_i64 (by simp [hs, h0'', h1'']), B1.out⟩
  · rw [fit_err he]
    have HU := Lib.hid (rCodes_no (cap := cap) hn he HC)
    obtain ⟨e, hee⟩ : ∃ e, e = err n f := ⟨_, rfl⟩
    rw [← hee] at HU he ⊢
    clear hee HC
    go_enter Tryz.func121, Tryz.ntmps121
    go_wp2_with fail
    refine HU.out.mono ?_
    rintro e w' ⟨rfl, b1⟩
    go_wp2
    go_ret
    exact ⟨rfl, b1⟩
end Go.Proofs.YtnkninjdpgpkmaaGreatDoor.Nh
