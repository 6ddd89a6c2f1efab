/-
  The reference's Build of layer 12, called with any head: its bytes, or what is wrong. (Made by tools/genbuild12.py.)
  Conditions: a name and a note of at most 2^40 bytes.
-/
import Derived.Test.YtgilfjojimgpaaaQf
namespace Go.Proofs.Ytgilfjojimgpaaa.Qg
open Go.RowKit Go.Proofs.Ytgilfjojimgpaaa.Vm Go.Proofs.Ytgilfjojimgpaaa.Vo Go.Proofs.Ytgilfjojimgpaaa.Vf Go.Proofs.Ytgilfjojimgpaaa.Bw Go.Proofs.Ytgilfjojimgpaaa.Qm Go.Proofs.Ytgilfjojimgpaaa.Qa Go.Proofs.Ytgilfjojimgpaaa.Qb Go.Proofs.Ytgilfjojimgpaaa.Qc Go.Proofs.Ytgilfjojimgpaaa.Qd Go.Proofs.Ytgilfjojimgpaaa.Qe Go.Proofs.Ytgilfjojimgpaaa.Qf

/-- The sum of a text's bytes. -/
def crS (s : ByteArray) : Nat := crl s.data.toList
theorem rOf_crl (s : ByteArray) (w : World) (hs : s.size ≤ 9223372036854775807) : Calls Try.prog 21 #[.string s] w fun e w' => e = .returned (.int .u32 ((crS s : Nat) : Int)) ∧ w = w' := Co.rOf_any s w hs
theorem ok_crl (l : ByteArray) : okF (((crS l : Nat) : Int) % 65536) 2 := by
  refine ⟨.inr (.inl rfl), by omega, ?_⟩
  show (((crS l : Nat) : Int) % 65536).toNat < 256 ^ 2
  omega
theorem rsum_leaf {q : Hq} {B : ByteArray} (hB : B.data.toList = boQ q) (hm : q.m = true) : B ++ fx (((crS B : Nat) : Int) % 65536) 2 = ⟨(encQ crl q).toArray⟩ := by
  have h := sum_leaf hB hm
  unfold sumF at h
  rw [Int.natCast_emod] at h
  exact h
section
variable {q : Hq} {s n c : ByteArray} (L : s.data.toList = hdQ q ++ exQ q)
include L
theorem r00 (h8 : hsF q.f 8 = false) (h16 : hsF q.f 16 = false) : s.data.toList = boQ q := b00 L (of_decide_eq_false h8) (of_decide_eq_false h16)
theorem r10 (h8 : hsF q.f 8 = true) (h16 : hsF q.f 16 = false) (hn : q.n = n.data.toList := by rfl) : (s ++ n ++ ⟨#[0]⟩).data.toList = boQ q := by
  have h := b10 L (of_decide_eq_true h8) (of_decide_eq_false h16) hn
  rw [← h]; simp only [app_list, List.append_assoc]
theorem r01 (h8 : hsF q.f 8 = false) (h16 : hsF q.f 16 = true) (hc : q.c = c.data.toList := by rfl) : (s ++ c ++ ⟨#[0]⟩).data.toList = boQ q := by
  have h := b01 L (of_decide_eq_false h8) (of_decide_eq_true h16) hc
  rw [← h]; simp only [app_list, List.append_assoc]
theorem r11 (h8 : hsF q.f 8 = true) (h16 : hsF q.f 16 = true) (hn : q.n = n.data.toList := by rfl) (hc : q.c = c.data.toList := by rfl) : (s ++ n ++ ⟨#[0]⟩ ++ c ++ ⟨#[0]⟩).data.toList = boQ q := by
  have h := b11 L (of_decide_eq_true h8) (of_decide_eq_true h16) hn hc
  rw [← h]; simp only [app_list, List.append_assoc]
end
set_option maxRecDepth 100000 in
theorem rBuild_no (t : Int) (e n c : ByteArray) (v o : Int) (x m : Bool) (f : Int) (w : World) (hn : n.size ≤ 1099511627776) (hc : c.size ≤ 1099511627776) (hr : ¬ rightQ (hq t e n c v o x m f)) :
    Calls Try.prog 10 #[.agg (cs9 t e n c v o x m f)] w fun e' w' => e' = .returned (.tuple #[.string ⟨#[]⟩, .int .i64 4]) ∧ Below w.heap.size w w' := by
  have HR := Lib.hid (rRight_any t e n c v o x m f · (by omega) (by omega))
  have HN := Lib.hid hr
  clear hr
  obtain ⟨w1, hw1⟩ : ∃ w1, w1 = w.alloc (.cells (cs9 t e n c v o x m f) 23) := ⟨_, rfl⟩
  have B1 : Hid (Below w.heap.size w w1) := Lib.hid (by rw [hw1]; exact (Below.refl _ w).alloc (Nat.le_refl _) _)
  go_enter Try.func10, Try.ntmps10
  go_wp2_with fail
  rw [← hw1]
  refine (HR.out w1).mono ?_
  rintro e' w2 ⟨⟨b, rfl, hb⟩, b2⟩
  obtain rfl : b = false := by
    cases b
    · rfl
    · exact absurd (hb.1 rfl) HN.out
  have B2 := Lib.hid (grows B1.out b2)
  clear hb b2 hw1
  go_wp2
  go_ret2
  exact ⟨rfl, B2.out⟩
set_option maxHeartbeats 4000000 in
set_option maxRecDepth 100000 in
theorem rBuild_false_false (t : Int) (e n c : ByteArray) (v o : Int) (f : Int) (w : World) (hn : n.size ≤ 1099511627776) (hc : c.size ≤ 1099511627776) (hr : rightQ (hq t e n c v o false false f)) :
    Calls Try.prog 10 #[.agg (cs9 t e n c v o false false f)] w fun e' w' => e' = .returned (.tuple #[.string ⟨(encQ crl (hq t e n c v o false false f)).toArray⟩, .int .i64 0]) ∧ Below w.heap.size w w' := by
  obtain ⟨⟨t0, t1⟩, ⟨v0, v1⟩, ⟨o0, o1⟩, ⟨f0, f1, f2⟩, e0⟩ : (0 ≤ t ∧ t ≤ 4294967295) ∧ (0 ≤ v ∧ v ≤ 255) ∧ (0 ≤ o ∧ o ≤ 255) ∧ (0 ≤ f ∧ f ≤ 28 ∧ f % 4 = 0) ∧ e.data.toList.length ≤ 65535 := ⟨hr.1, hr.2.1, hr.2.2.1, hr.2.2.2.1, hr.2.2.2.2.1.1⟩
  have he : e.size ≤ 65535 := by
    have : e.data.toList.length = e.size := by rw [Array.length_toList]; rfl
    omega
  have HR := Lib.hid (rRight_any t e n c v o false false f · (by omega) (by omega))
  have HN := Lib.hid hr
  have F0 := Lib.hid f0
  have FM := Lib.hid (show f ≤ 9223372036854775807 by omega)
  have HHF : Hid (f = ((flQ (hq t e n c v o false false f) : Nat) : Int)) := Lib.hid (by
    have : flQ (hq t e n c v o false false f) = f.toNat + 0 + 0 := rfl
    rw [this]; omega)
  have k1 : okF f 1 := ⟨.inl rfl, by omega, by show Int.toNat f < 256 ^ 1; omega⟩
  have k2 : okF t 4 := ⟨.inr (.inr rfl), t0, by show t.toNat < 256 ^ 4; omega⟩
  have k3 : okF v 1 := ⟨.inl rfl, v0, by show v.toNat < 256 ^ 1; omega⟩
  have k4 : okF o 1 := ⟨.inl rfl, o0, by show o.toNat < 256 ^ 1; omega⟩
  have k5 : okF (e.size : Int) 2 := ⟨.inr (.inl rfl), by omega, by show (e.size : Int).toNat < 256 ^ 2; omega⟩
  have O1 := Lib.hid k1; have O2 := Lib.hid k2; have O3 := Lib.hid k3; have O4 := Lib.hid k4; have O5 := Lib.hid k5
  have z1 : (fx f 1).size = 1 := fx_size _ _
  have z2 : (fx t 4).size = 4 := fx_size _ _
  have z3 : (fx v 1).size = 1 := fx_size _ _
  have z4 : (fx o 1).size = 1 := fx_size _ _
  have z5 : (fx (e.size : Int) 2).size = 2 := fx_size _ _
  have z6 : ∀ k, (fx k 2).size = 2 := fun k => fx_size _ _
  have hz0 : (⟨#[0]⟩ : ByteArray).size = 1 := rfl
  clear hr k1 k2 k3 k4 k5 t0 t1 v0 v1 o0 o1 e0 f2
  obtain ⟨w1, hw1⟩ : ∃ w1, w1 = w.alloc (.cells (cs9 t e n c v o false false f) 23) := ⟨_, rfl⟩
  have K1 : Hid (Blk w1 w.heap.size 23 (cs9 t e n c v o false false f)) := Lib.hid (by rw [hw1]; exact Blk.fresh w _ _)
  have B1 : Hid (Below w.heap.size w w1) := Lib.hid (by rw [hw1]; exact (Below.refl _ w).alloc (Nat.le_refl _) _)
  go_enter Try.func10, Try.ntmps10
  go_wp2_with fail
  rw [← hw1]
  refine (HR.out w1).mono ?_
  rintro e' w2 ⟨⟨b, rfl, hb⟩, b2⟩
  obtain rfl : b = true := hb.2 HN.out
  have K2 := K1.out.below b2
  have B2 := Lib.hid (grows B1.out b2)
  clear hb b2 hw1
  have C := nine K2
  go_wp2_with fail
  go_region_held3 (fun u => u.cell? ⟨w.heap.size, 0, none⟩ = some (.int .i64 t) ∧ u.cell? ⟨w.heap.size, 1, none⟩ = some (.string e) ∧ u.cell? ⟨w.heap.size, 2, none⟩ = some (.string n) ∧ u.cell? ⟨w.heap.size, 3, none⟩ = some (.string c) ∧ u.cell? ⟨w.heap.size, 4, none⟩ = some (.int .i64 v) ∧ u.cell? ⟨w.heap.size, 5, none⟩ = some (.int .i64 o) ∧ u.cell? ⟨w.heap.size, 6, none⟩ = some (.bool false) ∧ u.cell? ⟨w.heap.size, 7, none⟩ = some (.bool false) ∧ u.cell? ⟨w.heap.size, 8, none⟩ = some (.int .i64 f) ∧ Below w.heap.size w u)
    (first | exact ⟨C.1, C.2.1, C.2.2.1, C.2.2.2.1, C.2.2.2.2.1, C.2.2.2.2.2.1, C.2.2.2.2.2.2.1, C.2.2.2.2.2.2.2.1, C.2.2.2.2.2.2.2.2, B2.out.drew⟩ | assumption | (apply keep9; assumption; assumption))
    (first | (go_at_call 19; refine (num_fx _ _ _ (by first | exact O1.out | exact O2.out | exact O3.out | exact O4.out)).mono ?_; rintro e w' ⟨rfl, hb⟩))
  obtain ⟨c0, c1, c2, c3, c4, c5, c6, c7, c8, b3⟩ := (show _ ∧ _ ∧ _ ∧ _ ∧ _ ∧ _ ∧ _ ∧ _ ∧ _ ∧ Below w.heap.size w _ by assumption)
  have HB := Lib.hid b3
  clear C K2
  obtain ⟨s1, hs1⟩ : ∃ s, s = (⟨#[31, 139, 8]⟩ : ByteArray) ++ fx f 1 ++ fx t 4 ++ fx v 1 ++ fx o 1 := ⟨_, rfl⟩
  rw [← hs1]
  have L1 : Hid (s1.data.toList = hdQ (hq t e n c v o false false f)) := Lib.hid (by rw [hs1]; simp only [app_list, fx_list]; rw [HHF.out]; simp only [List.append_assoc]; rfl)
  have g1 : s1.size = 10 := by rw [hs1]; simp only [ByteArray.size_append, z1, z2, z3, z4]; rfl
  clear hs1 z1 z2 z3 z4
  cases h4 : hsF f 4
  · obtain ⟨s2, hs2⟩ : ∃ s, s = s1 := ⟨_, rfl⟩
    rw [← hs2]
    have L2 : Hid (s2.data.toList = hdQ (hq t e n c v o false false f) ++ exQ (hq t e n c v o false false f)) := Lib.hid (by rw [hs2, L1.out]; rw [show exQ (hq t e n c v o false false f) = [] from if_neg (of_decide_eq_false h4), List.append_nil])
    have g2 : s2.size ≤ 65547 := by rw [hs2, g1]; omega
    clear hs2 g1 L1
    cases h8 : hsF f 8
    · cases h16 : hsF f 16
      · go_wp2_with (first | (go_at_call 20; refine (has_any _ _ _ F0.out FM.out (by first | exact .inr (.inr (.inl rfl)) | exact .inr (.inr (.inr (.inl rfl))) | exact .inr (.inr (.inr (.inr rfl))))).mono ?_; rintro e w' ⟨rfl, rfl⟩) | (go_at_call 21; refine (rOf_crl _ _ (by first | omega | (simp only [ByteArray.size_append, hz0]; omega))).mono ?_; rintro e w' ⟨rfl, rfl⟩) | (go_at_call 19; refine (num_fx _ _ _ (ok_crl _)).mono ?_; rintro e w' ⟨rfl, hb5⟩))
        go_ret2
        exact ⟨ret_str_int (plain_leaf (r00 L2.out h8 h16) rfl) rfl, HB.out⟩
      · go_wp2_with (first | (go_at_call 20; refine (has_any _ _ _ F0.out FM.out (by first | exact .inr (.inr (.inl rfl)) | exact .inr (.inr (.inr (.inl rfl))) | exact .inr (.inr (.inr (.inr rfl))))).mono ?_; rintro e w' ⟨rfl, rfl⟩) | (go_at_call 21; refine (rOf_crl _ _ (by first | omega | (simp only [ByteArray.size_append, hz0]; omega))).mono ?_; rintro e w' ⟨rfl, rfl⟩) | (go_at_call 19; refine (num_fx _ _ _ (ok_crl _)).mono ?_; rintro e w' ⟨rfl, hb5⟩))
        go_ret2
        exact ⟨ret_str_int (plain_leaf (r01 L2.out h8 h16) rfl) rfl, HB.out⟩
    · cases h16 : hsF f 16
      · go_wp2_with (first | (go_at_call 20; refine (has_any _ _ _ F0.out FM.out (by first | exact .inr (.inr (.inl rfl)) | exact .inr (.inr (.inr (.inl rfl))) | exact .inr (.inr (.inr (.inr rfl))))).mono ?_; rintro e w' ⟨rfl, rfl⟩) | (go_at_call 21; refine (rOf_crl _ _ (by first | omega | (simp only [ByteArray.size_append, hz0]; omega))).mono ?_; rintro e w' ⟨rfl, rfl⟩) | (go_at_call 19; refine (num_fx _ _ _ (ok_crl _)).mono ?_; rintro e w' ⟨rfl, hb5⟩))
        go_ret2
        exact ⟨ret_str_int (plain_leaf (r10 L2.out h8 h16) rfl) rfl, HB.out⟩
      · go_wp2_with (first | (go_at_call 20; refine (has_any _ _ _ F0.out FM.out (by first | exact .inr (.inr (.inl rfl)) | exact .inr (.inr (.inr (.inl rfl))) | exact .inr (.inr (.inr (.inr rfl))))).mono ?_; rintro e w' ⟨rfl, rfl⟩) | (go_at_call 21; refine (rOf_crl _ _ (by first | omega | (simp only [ByteArray.size_append, hz0]; omega))).mono ?_; rintro e w' ⟨rfl, rfl⟩) | (go_at_call 19; refine (num_fx _ _ _ (ok_crl _)).mono ?_; rintro e w' ⟨rfl, hb5⟩))
        go_ret2
        exact ⟨ret_str_int (plain_leaf (r11 L2.out h8 h16) rfl) rfl, HB.out⟩
  · have q5 : ¬ 9223372036854775807 < 12 + e.size := by omega
    have q6 : ¬ 9223372036854775807 < 10 + 2 + e.size := by omega
    have H4 := Lib.hid h4
    go_wp2_with (go_at_call 20; refine (has_any _ _ _ F0.out FM.out (by first | exact .inr (.inr (.inl rfl)) | exact .inr (.inr (.inr (.inl rfl))) | exact .inr (.inr (.inr (.inr rfl))))).mono ?_; rintro e w' ⟨rfl, rfl⟩)
    go_region_held3 (fun u => u.cell? ⟨w.heap.size, 0, none⟩ = some (.int .i64 t) ∧ u.cell? ⟨w.heap.size, 1, none⟩ = some (.string e) ∧ u.cell? ⟨w.heap.size, 2, none⟩ = some (.string n) ∧ u.cell? ⟨w.heap.size, 3, none⟩ = some (.string c) ∧ u.cell? ⟨w.heap.size, 4, none⟩ = some (.int .i64 v) ∧ u.cell? ⟨w.heap.size, 5, none⟩ = some (.int .i64 o) ∧ u.cell? ⟨w.heap.size, 6, none⟩ = some (.bool false) ∧ u.cell? ⟨w.heap.size, 7, none⟩ = some (.bool false) ∧ u.cell? ⟨w.heap.size, 8, none⟩ = some (.int .i64 f) ∧ Below w.heap.size w u)
      (first | exact ⟨c0, c1, c2, c3, c4, c5, c6, c7, c8, b3.drew⟩ | assumption | (apply keep9; assumption; assumption))
      (first | (go_at_call 19; refine (num_fx _ _ _ (by first | exact O5.out)).mono ?_; rintro e w' ⟨rfl, hb⟩))
    clear c0 c1 c2 c3 c4 c5 c6 c7 c8 b3 HB
    obtain ⟨c0, c1, c2, c3, c4, c5, c6, c7, c8, b3⟩ := (show _ ∧ _ ∧ _ ∧ _ ∧ _ ∧ _ ∧ _ ∧ _ ∧ _ ∧ Below w.heap.size w _ by assumption)
    have HB := Lib.hid b3
    obtain ⟨s2, hs2⟩ : ∃ s, s = s1 ++ fx (e.size : Int) 2 ++ e := ⟨_, rfl⟩
    rw [← hs2]
    have L2 : Hid (s2.data.toList = hdQ (hq t e n c v o false false f) ++ exQ (hq t e n c v o false false f)) := Lib.hid (by
      rw [hs2, app_list, app_list, fx_list, L1.out, List.append_assoc]; rw [show exQ (hq t e n c v o false false f) = le 2 e.data.toList.length ++ e.data.toList from if_pos (of_decide_eq_true H4.out)]
      have : e.size = e.data.toList.length := by rw [Array.length_toList]; rfl
      show _ ++ (le 2 ((e.size : Nat) : Int).toNat ++ e.data.toList) = _ ++ (le 2 e.data.toList.length ++ e.data.toList)
      rw [← this]; rfl)
    have g2 : s2.size ≤ 65547 := by rw [hs2, ByteArray.size_append, ByteArray.size_append, g1, z5]; omega
    clear hs2 g1 L1
    cases h8 : hsF f 8
    · cases h16 : hsF f 16
      · go_wp2_with (first | (go_at_call 20; refine (has_any _ _ _ F0.out FM.out (by first | exact .inr (.inr (.inl rfl)) | exact .inr (.inr (.inr (.inl rfl))) | exact .inr (.inr (.inr (.inr rfl))))).mono ?_; rintro e w' ⟨rfl, rfl⟩) | (go_at_call 21; refine (rOf_crl _ _ (by first | omega | (simp only [ByteArray.size_append, hz0]; omega))).mono ?_; rintro e w' ⟨rfl, rfl⟩) | (go_at_call 19; refine (num_fx _ _ _ (ok_crl _)).mono ?_; rintro e w' ⟨rfl, hb5⟩))
        go_ret2
        exact ⟨ret_str_int (plain_leaf (r00 L2.out h8 h16) rfl) rfl, HB.out⟩
      · go_wp2_with (first | (go_at_call 20; refine (has_any _ _ _ F0.out FM.out (by first | exact .inr (.inr (.inl rfl)) | exact .inr (.inr (.inr (.inl rfl))) | exact .inr (.inr (.inr (.inr rfl))))).mono ?_; rintro e w' ⟨rfl, rfl⟩) | (go_at_call 21; refine (rOf_crl _ _ (by first | omega | (simp only [ByteArray.size_append, hz0]; omega))).mono ?_; rintro e w' ⟨rfl, rfl⟩) | (go_at_call 19; refine (num_fx _ _ _ (ok_crl _)).mono ?_; rintro e w' ⟨rfl, hb5⟩))
        go_ret2
        exact ⟨ret_str_int (plain_leaf (r01 L2.out h8 h16) rfl) rfl, HB.out⟩
    · cases h16 : hsF f 16
      · go_wp2_with (first | (go_at_call 20; refine (has_any _ _ _ F0.out FM.out (by first | exact .inr (.inr (.inl rfl)) | exact .inr (.inr (.inr (.inl rfl))) | exact .inr (.inr (.inr (.inr rfl))))).mono ?_; rintro e w' ⟨rfl, rfl⟩) | (go_at_call 21; refine (rOf_crl _ _ (by first | omega | (simp only [ByteArray.size_append, hz0]; omega))).mono ?_; rintro e w' ⟨rfl, rfl⟩) | (go_at_call 19; refine (num_fx _ _ _ (ok_crl _)).mono ?_; rintro e w' ⟨rfl, hb5⟩))
        go_ret2
        exact ⟨ret_str_int (plain_leaf (r10 L2.out h8 h16) rfl) rfl, HB.out⟩
      · go_wp2_with (first | (go_at_call 20; refine (has_any _ _ _ F0.out FM.out (by first | exact .inr (.inr (.inl rfl)) | exact .inr (.inr (.inr (.inl rfl))) | exact .inr (.inr (.inr (.inr rfl))))).mono ?_; rintro e w' ⟨rfl, rfl⟩) | (go_at_call 21; refine (rOf_crl _ _ (by first | omega | (simp only [ByteArray.size_append, hz0]; omega))).mono ?_; rintro e w' ⟨rfl, rfl⟩) | (go_at_call 19; refine (num_fx _ _ _ (ok_crl _)).mono ?_; rintro e w' ⟨rfl, hb5⟩))
        go_ret2
        exact ⟨ret_str_int (plain_leaf (r11 L2.out h8 h16) rfl) rfl, HB.out⟩
set_option maxHeartbeats 4000000 in
set_option maxRecDepth 100000 in
theorem rBuild_false_true (t : Int) (e n c : ByteArray) (v o : Int) (f : Int) (w : World) (hn : n.size ≤ 1099511627776) (hc : c.size ≤ 1099511627776) (hr : rightQ (hq t e n c v o false true f)) :
    Calls Try.prog 10 #[.agg (cs9 t e n c v o false true f)] w fun e' w' => e' = .returned (.tuple #[.string ⟨(encQ crl (hq t e n c v o false true f)).toArray⟩, .int .i64 0]) ∧ Below w.heap.size w w' := by
  obtain ⟨⟨t0, t1⟩, ⟨v0, v1⟩, ⟨o0, o1⟩, ⟨f0, f1, f2⟩, e0⟩ : (0 ≤ t ∧ t ≤ 4294967295) ∧ (0 ≤ v ∧ v ≤ 255) ∧ (0 ≤ o ∧ o ≤ 255) ∧ (0 ≤ f ∧ f ≤ 28 ∧ f % 4 = 0) ∧ e.data.toList.length ≤ 65535 := ⟨hr.1, hr.2.1, hr.2.2.1, hr.2.2.2.1, hr.2.2.2.2.1.1⟩
  have he : e.size ≤ 65535 := by
    have : e.data.toList.length = e.size := by rw [Array.length_toList]; rfl
    omega
  have HR := Lib.hid (rRight_any t e n c v o false true f · (by omega) (by omega))
  have HN := Lib.hid hr
  have F0 := Lib.hid f0
  have FM := Lib.hid (show f ≤ 9223372036854775807 by omega)
  have HHF : Hid ((f + 2) = ((flQ (hq t e n c v o false true f) : Nat) : Int)) := Lib.hid (by
    have : flQ (hq t e n c v o false true f) = f.toNat + 0 + 2 := rfl
    rw [this]; omega)
  have k1 : okF (f + 2) 1 := ⟨.inl rfl, by omega, by show Int.toNat (f + 2) < 256 ^ 1; omega⟩
  have k2 : okF t 4 := ⟨.inr (.inr rfl), t0, by show t.toNat < 256 ^ 4; omega⟩
  have k3 : okF v 1 := ⟨.inl rfl, v0, by show v.toNat < 256 ^ 1; omega⟩
  have k4 : okF o 1 := ⟨.inl rfl, o0, by show o.toNat < 256 ^ 1; omega⟩
  have k5 : okF (e.size : Int) 2 := ⟨.inr (.inl rfl), by omega, by show (e.size : Int).toNat < 256 ^ 2; omega⟩
  have O1 := Lib.hid k1; have O2 := Lib.hid k2; have O3 := Lib.hid k3; have O4 := Lib.hid k4; have O5 := Lib.hid k5
  have z1 : (fx (f + 2) 1).size = 1 := fx_size _ _
  have z2 : (fx t 4).size = 4 := fx_size _ _
  have z3 : (fx v 1).size = 1 := fx_size _ _
  have z4 : (fx o 1).size = 1 := fx_size _ _
  have z5 : (fx (e.size : Int) 2).size = 2 := fx_size _ _
  have z6 : ∀ k, (fx k 2).size = 2 := fun k => fx_size _ _
  have hz0 : (⟨#[0]⟩ : ByteArray).size = 1 := rfl
  clear hr k1 k2 k3 k4 k5 t0 t1 v0 v1 o0 o1 e0 f2
  obtain ⟨w1, hw1⟩ : ∃ w1, w1 = w.alloc (.cells (cs9 t e n c v o false true f) 23) := ⟨_, rfl⟩
  have K1 : Hid (Blk w1 w.heap.size 23 (cs9 t e n c v o false true f)) := Lib.hid (by rw [hw1]; exact Blk.fresh w _ _)
  have B1 : Hid (Below w.heap.size w w1) := Lib.hid (by rw [hw1]; exact (Below.refl _ w).alloc (Nat.le_refl _) _)
  go_enter Try.func10, Try.ntmps10
  go_wp2_with fail
  rw [← hw1]
  refine (HR.out w1).mono ?_
  rintro e' w2 ⟨⟨b, rfl, hb⟩, b2⟩
  obtain rfl : b = true := hb.2 HN.out
  have K2 := K1.out.below b2
  have B2 := Lib.hid (grows B1.out b2)
  clear hb b2 hw1
  have C := nine K2
  go_wp2_with fail
  go_region_held3 (fun u => u.cell? ⟨w.heap.size, 0, none⟩ = some (.int .i64 t) ∧ u.cell? ⟨w.heap.size, 1, none⟩ = some (.string e) ∧ u.cell? ⟨w.heap.size, 2, none⟩ = some (.string n) ∧ u.cell? ⟨w.heap.size, 3, none⟩ = some (.string c) ∧ u.cell? ⟨w.heap.size, 4, none⟩ = some (.int .i64 v) ∧ u.cell? ⟨w.heap.size, 5, none⟩ = some (.int .i64 o) ∧ u.cell? ⟨w.heap.size, 6, none⟩ = some (.bool false) ∧ u.cell? ⟨w.heap.size, 7, none⟩ = some (.bool true) ∧ u.cell? ⟨w.heap.size, 8, none⟩ = some (.int .i64 f) ∧ Below w.heap.size w u)
    (first | exact ⟨C.1, C.2.1, C.2.2.1, C.2.2.2.1, C.2.2.2.2.1, C.2.2.2.2.2.1, C.2.2.2.2.2.2.1, C.2.2.2.2.2.2.2.1, C.2.2.2.2.2.2.2.2, B2.out.drew⟩ | assumption | (apply keep9; assumption; assumption))
    (first | (go_at_call 19; refine (num_fx _ _ _ (by first | exact O1.out | exact O2.out | exact O3.out | exact O4.out)).mono ?_; rintro e w' ⟨rfl, hb⟩))
  obtain ⟨c0, c1, c2, c3, c4, c5, c6, c7, c8, b3⟩ := (show _ ∧ _ ∧ _ ∧ _ ∧ _ ∧ _ ∧ _ ∧ _ ∧ _ ∧ Below w.heap.size w _ by assumption)
  have HB := Lib.hid b3
  clear C K2
  obtain ⟨s1, hs1⟩ : ∃ s, s = (⟨#[31, 139, 8]⟩ : ByteArray) ++ fx (f + 2) 1 ++ fx t 4 ++ fx v 1 ++ fx o 1 := ⟨_, rfl⟩
  rw [← hs1]
  have L1 : Hid (s1.data.toList = hdQ (hq t e n c v o false true f)) := Lib.hid (by rw [hs1]; simp only [app_list, fx_list]; rw [HHF.out]; simp only [List.append_assoc]; rfl)
  have g1 : s1.size = 10 := by rw [hs1]; simp only [ByteArray.size_append, z1, z2, z3, z4]; rfl
  clear hs1 z1 z2 z3 z4
  cases h4 : hsF f 4
  · obtain ⟨s2, hs2⟩ : ∃ s, s = s1 := ⟨_, rfl⟩
    rw [← hs2]
    have L2 : Hid (s2.data.toList = hdQ (hq t e n c v o false true f) ++ exQ (hq t e n c v o false true f)) := Lib.hid (by rw [hs2, L1.out]; rw [show exQ (hq t e n c v o false true f) = [] from if_neg (of_decide_eq_false h4), List.append_nil])
    have g2 : s2.size ≤ 65547 := by rw [hs2, g1]; omega
    clear hs2 g1 L1
    cases h8 : hsF f 8
    · cases h16 : hsF f 16
      · go_wp2_with (first | (go_at_call 20; refine (has_any _ _ _ F0.out FM.out (by first | exact .inr (.inr (.inl rfl)) | exact .inr (.inr (.inr (.inl rfl))) | exact .inr (.inr (.inr (.inr rfl))))).mono ?_; rintro e w' ⟨rfl, rfl⟩) | (go_at_call 21; refine (rOf_crl _ _ (by first | omega | (simp only [ByteArray.size_append, hz0]; omega))).mono ?_; rintro e w' ⟨rfl, rfl⟩) | (go_at_call 19; refine (num_fx _ _ _ (ok_crl _)).mono ?_; rintro e w' ⟨rfl, hb5⟩))
        go_ret2
        exact ⟨ret_str_int (rsum_leaf (r00 L2.out h8 h16) rfl) rfl, grows HB.out hb5⟩
      · go_wp2_with (first | (go_at_call 20; refine (has_any _ _ _ F0.out FM.out (by first | exact .inr (.inr (.inl rfl)) | exact .inr (.inr (.inr (.inl rfl))) | exact .inr (.inr (.inr (.inr rfl))))).mono ?_; rintro e w' ⟨rfl, rfl⟩) | (go_at_call 21; refine (rOf_crl _ _ (by first | omega | (simp only [ByteArray.size_append, hz0]; omega))).mono ?_; rintro e w' ⟨rfl, rfl⟩) | (go_at_call 19; refine (num_fx _ _ _ (ok_crl _)).mono ?_; rintro e w' ⟨rfl, hb5⟩))
        go_ret2
        exact ⟨ret_str_int (rsum_leaf (r01 L2.out h8 h16) rfl) rfl, grows HB.out hb5⟩
    · cases h16 : hsF f 16
      · go_wp2_with (first | (go_at_call 20; refine (has_any _ _ _ F0.out FM.out (by first | exact .inr (.inr (.inl rfl)) | exact .inr (.inr (.inr (.inl rfl))) | exact .inr (.inr (.inr (.inr rfl))))).mono ?_; rintro e w' ⟨rfl, rfl⟩) | (go_at_call 21; refine (rOf_crl _ _ (by first | omega | (simp only [ByteArray.size_append, hz0]; omega))).mono ?_; rintro e w' ⟨rfl, rfl⟩) | (go_at_call 19; refine (num_fx _ _ _ (ok_crl _)).mono ?_; rintro e w' ⟨rfl, hb5⟩))
        go_ret2
        exact ⟨ret_str_int (rsum_leaf (r10 L2.out h8 h16) rfl) rfl, grows HB.out hb5⟩
      · go_wp2_with (first | (go_at_call 20; refine (has_any _ _ _ F0.out FM.out (by first | exact .inr (.inr (.inl rfl)) | exact .inr (.inr (.inr (.inl rfl))) | exact .inr (.inr (.inr (.inr rfl))))).mono ?_; rintro e w' ⟨rfl, rfl⟩) | (go_at_call 21; refine (rOf_crl _ _ (by first | omega | (simp only [ByteArray.size_append, hz0]; omega))).mono ?_; rintro e w' ⟨rfl, rfl⟩) | (go_at_call 19; refine (num_fx _ _ _ (ok_crl _)).mono ?_; rintro e w' ⟨rfl, hb5⟩))
        go_ret2
        exact ⟨ret_str_int (rsum_leaf (r11 L2.out h8 h16) rfl) rfl, grows HB.out hb5⟩
  · have q5 : ¬ 9223372036854775807 < 12 + e.size := by omega
    have q6 : ¬ 9223372036854775807 < 10 + 2 + e.size := by omega
    have H4 := Lib.hid h4
    go_wp2_with (go_at_call 20; refine (has_any _ _ _ F0.out FM.out (by first | exact .inr (.inr (.inl rfl)) | exact .inr (.inr (.inr (.inl rfl))) | exact .inr (.inr (.inr (.inr rfl))))).mono ?_; rintro e w' ⟨rfl, rfl⟩)
    go_region_held3 (fun u => u.cell? ⟨w.heap.size, 0, none⟩ = some (.int .i64 t) ∧ u.cell? ⟨w.heap.size, 1, none⟩ = some (.string e) ∧ u.cell? ⟨w.heap.size, 2, none⟩ = some (.string n) ∧ u.cell? ⟨w.heap.size, 3, none⟩ = some (.string c) ∧ u.cell? ⟨w.heap.size, 4, none⟩ = some (.int .i64 v) ∧ u.cell? ⟨w.heap.size, 5, none⟩ = some (.int .i64 o) ∧ u.cell? ⟨w.heap.size, 6, none⟩ = some (.bool false) ∧ u.cell? ⟨w.heap.size, 7, none⟩ = some (.bool true) ∧ u.cell? ⟨w.heap.size, 8, none⟩ = some (.int .i64 f) ∧ Below w.heap.size w u)
      (first | exact ⟨c0, c1, c2, c3, c4, c5, c6, c7, c8, b3.drew⟩ | assumption | (apply keep9; assumption; assumption))
      (first | (go_at_call 19; refine (num_fx _ _ _ (by first | exact O5.out)).mono ?_; rintro e w' ⟨rfl, hb⟩))
    clear c0 c1 c2 c3 c4 c5 c6 c7 c8 b3 HB
    obtain ⟨c0, c1, c2, c3, c4, c5, c6, c7, c8, b3⟩ := (show _ ∧ _ ∧ _ ∧ _ ∧ _ ∧ _ ∧ _ ∧ _ ∧ _ ∧ Below w.heap.size w _ by assumption)
    have HB := Lib.hid b3
    obtain ⟨s2, hs2⟩ : ∃ s, s = s1 ++ fx (e.size : Int) 2 ++ e := ⟨_, rfl⟩
    rw [← hs2]
    have L2 : Hid (s2.data.toList = hdQ (hq t e n c v o false true f) ++ exQ (hq t e n c v o false true f)) := Lib.hid (by
      rw [hs2, app_list, app_list, fx_list, L1.out, List.append_assoc]; rw [show exQ (hq t e n c v o false true f) = le 2 e.data.toList.length ++ e.data.toList from if_pos (of_decide_eq_true H4.out)]
      have : e.size = e.data.toList.length := by rw [Array.length_toList]; rfl
      show _ ++ (le 2 ((e.size : Nat) : Int).toNat ++ e.data.toList) = _ ++ (le 2 e.data.toList.length ++ e.data.toList)
      rw [← this]; rfl)
    have g2 : s2.size ≤ 65547 := by rw [hs2, ByteArray.size_append, ByteArray.size_append, g1, z5]; omega
    clear hs2 g1 L1
    cases h8 : hsF f 8
    · cases h16 : hsF f 16
      · go_wp2_with (first | (go_at_call 20; refine (has_any _ _ _ F0.out FM.out (by first | exact .inr (.inr (.inl rfl)) | exact .inr (.inr (.inr (.inl rfl))) | exact .inr (.inr (.inr (.inr rfl))))).mono ?_; rintro e w' ⟨rfl, rfl⟩) | (go_at_call 21; refine (rOf_crl _ _ (by first | omega | (simp only [ByteArray.size_append, hz0]; omega))).mono ?_; rintro e w' ⟨rfl, rfl⟩) | (go_at_call 19; refine (num_fx _ _ _ (ok_crl _)).mono ?_; rintro e w' ⟨rfl, hb5⟩))
        go_ret2
        exact ⟨ret_str_int (rsum_leaf (r00 L2.out h8 h16) rfl) rfl, grows HB.out hb5⟩
      · go_wp2_with (first | (go_at_call 20; refine (has_any _ _ _ F0.out FM.out (by first | exact .inr (.inr (.inl rfl)) | exact .inr (.inr (.inr (.inl rfl))) | exact .inr (.inr (.inr (.inr rfl))))).mono ?_; rintro e w' ⟨rfl, rfl⟩) | (go_at_call 21; refine (rOf_crl _ _ (by first | omega | (simp only [ByteArray.size_append, hz0]; omega))).mono ?_; rintro e w' ⟨rfl, rfl⟩) | (go_at_call 19; refine (num_fx _ _ _ (ok_crl _)).mono ?_; rintro e w' ⟨rfl, hb5⟩))
        go_ret2
        exact ⟨ret_str_int (rsum_leaf (r01 L2.out h8 h16) rfl) rfl, grows HB.out hb5⟩
    · cases h16 : hsF f 16
      · go_wp2_with (first | (go_at_call 20; refine (has_any _ _ _ F0.out FM.out (by first | exact .inr (.inr (.inl rfl)) | exact .inr (.inr (.inr (.inl rfl))) | exact .inr (.inr (.inr (.inr rfl))))).mono ?_; rintro e w' ⟨rfl, rfl⟩) | (go_at_call 21; refine (rOf_crl _ _ (by first | omega | (simp only [ByteArray.size_append, hz0]; omega))).mono ?_; rintro e w' ⟨rfl, rfl⟩) | (go_at_call 19; refine (num_fx _ _ _ (ok_crl _)).mono ?_; rintro e w' ⟨rfl, hb5⟩))
        go_ret2
        exact ⟨ret_str_int (rsum_leaf (r10 L2.out h8 h16) rfl) rfl, grows HB.out hb5⟩
      · go_wp2_with (first | (go_at_call 20; refine (has_any _ _ _ F0.out FM.out (by first | exact .inr (.inr (.inl rfl)) | exact .inr (.inr (.inr (.inl rfl))) | exact .inr (.inr (.inr (.inr rfl))))).mono ?_; rintro e w' ⟨rfl, rfl⟩) | (go_at_call 21; refine (rOf_crl _ _ (by first | omega | (simp only [ByteArray.size_append, hz0]; omega))).mono ?_; rintro e w' ⟨rfl, rfl⟩) | (go_at_call 19; refine (num_fx _ _ _ (ok_crl _)).mono ?_; rintro e w' ⟨rfl, hb5⟩))
        go_ret2
        exact ⟨ret_str_int (rsum_leaf (r11 L2.out h8 h16) rfl) rfl, grows HB.out hb5⟩
set_option maxHeartbeats 4000000 in
set_option maxRecDepth 100000 in
theorem rBuild_true_false (t : Int) (e n c : ByteArray) (v o : Int) (f : Int) (w : World) (hn : n.size ≤ 1099511627776) (hc : c.size ≤ 1099511627776) (hr : rightQ (hq t e n c v o true false f)) :
    Calls Try.prog 10 #[.agg (cs9 t e n c v o true false f)] w fun e' w' => e' = .returned (.tuple #[.string ⟨(encQ crl (hq t e n c v o true false f)).toArray⟩, .int .i64 0]) ∧ Below w.heap.size w w' := by
  obtain ⟨⟨t0, t1⟩, ⟨v0, v1⟩, ⟨o0, o1⟩, ⟨f0, f1, f2⟩, e0⟩ : (0 ≤ t ∧ t ≤ 4294967295) ∧ (0 ≤ v ∧ v ≤ 255) ∧ (0 ≤ o ∧ o ≤ 255) ∧ (0 ≤ f ∧ f ≤ 28 ∧ f % 4 = 0) ∧ e.data.toList.length ≤ 65535 := ⟨hr.1, hr.2.1, hr.2.2.1, hr.2.2.2.1, hr.2.2.2.2.1.1⟩
  have he : e.size ≤ 65535 := by
    have : e.data.toList.length = e.size := by rw [Array.length_toList]; rfl
    omega
  have HR := Lib.hid (rRight_any t e n c v o true false f · (by omega) (by omega))
  have HN := Lib.hid hr
  have F0 := Lib.hid f0
  have FM := Lib.hid (show f ≤ 9223372036854775807 by omega)
  have HHF : Hid ((f + 1) = ((flQ (hq t e n c v o true false f) : Nat) : Int)) := Lib.hid (by
    have : flQ (hq t e n c v o true false f) = f.toNat + 1 + 0 := rfl
    rw [this]; omega)
  have k1 : okF (f + 1) 1 := ⟨.inl rfl, by omega, by show Int.toNat (f + 1) < 256 ^ 1; omega⟩
  have k2 : okF t 4 := ⟨.inr (.inr rfl), t0, by show t.toNat < 256 ^ 4; omega⟩
  have k3 : okF v 1 := ⟨.inl rfl, v0, by show v.toNat < 256 ^ 1; omega⟩
  have k4 : okF o 1 := ⟨.inl rfl, o0, by show o.toNat < 256 ^ 1; omega⟩
  have k5 : okF (e.size : Int) 2 := ⟨.inr (.inl rfl), by omega, by show (e.size : Int).toNat < 256 ^ 2; omega⟩
  have O1 := Lib.hid k1; have O2 := Lib.hid k2; have O3 := Lib.hid k3; have O4 := Lib.hid k4; have O5 := Lib.hid k5
  have z1 : (fx (f + 1) 1).size = 1 := fx_size _ _
  have z2 : (fx t 4).size = 4 := fx_size _ _
  have z3 : (fx v 1).size = 1 := fx_size _ _
  have z4 : (fx o 1).size = 1 := fx_size _ _
  have z5 : (fx (e.size : Int) 2).size = 2 := fx_size _ _
  have z6 : ∀ k, (fx k 2).size = 2 := fun k => fx_size _ _
  have hz0 : (⟨#[0]⟩ : ByteArray).size = 1 := rfl
  clear hr k1 k2 k3 k4 k5 t0 t1 v0 v1 o0 o1 e0 f2
  obtain ⟨w1, hw1⟩ : ∃ w1, w1 = w.alloc (.cells (cs9 t e n c v o true false f) 23) := ⟨_, rfl⟩
  have K1 : Hid (Blk w1 w.heap.size 23 (cs9 t e n c v o true false f)) := Lib.hid (by rw [hw1]; exact Blk.fresh w _ _)
  have B1 : Hid (Below w.heap.size w w1) := Lib.hid (by rw [hw1]; exact (Below.refl _ w).alloc (Nat.le_refl _) _)
  go_enter Try.func10, Try.ntmps10
  go_wp2_with fail
  rw [← hw1]
  refine (HR.out w1).mono ?_
  rintro e' w2 ⟨⟨b, rfl, hb⟩, b2⟩
  obtain rfl : b = true := hb.2 HN.out
  have K2 := K1.out.below b2
  have B2 := Lib.hid (grows B1.out b2)
  clear hb b2 hw1
  have C := nine K2
  go_wp2_with fail
  go_region_held3 (fun u => u.cell? ⟨w.heap.size, 0, none⟩ = some (.int .i64 t) ∧ u.cell? ⟨w.heap.size, 1, none⟩ = some (.string e) ∧ u.cell? ⟨w.heap.size, 2, none⟩ = some (.string n) ∧ u.cell? ⟨w.heap.size, 3, none⟩ = some (.string c) ∧ u.cell? ⟨w.heap.size, 4, none⟩ = some (.int .i64 v) ∧ u.cell? ⟨w.heap.size, 5, none⟩ = some (.int .i64 o) ∧ u.cell? ⟨w.heap.size, 6, none⟩ = some (.bool true) ∧ u.cell? ⟨w.heap.size, 7, none⟩ = some (.bool false) ∧ u.cell? ⟨w.heap.size, 8, none⟩ = some (.int .i64 f) ∧ Below w.heap.size w u)
    (first | exact ⟨C.1, C.2.1, C.2.2.1, C.2.2.2.1, C.2.2.2.2.1, C.2.2.2.2.2.1, C.2.2.2.2.2.2.1, C.2.2.2.2.2.2.2.1, C.2.2.2.2.2.2.2.2, B2.out.drew⟩ | assumption | (apply keep9; assumption; assumption))
    (first | (go_at_call 19; refine (num_fx _ _ _ (by first | exact O1.out | exact O2.out | exact O3.out | exact O4.out)).mono ?_; rintro e w' ⟨rfl, hb⟩))
  obtain ⟨c0, c1, c2, c3, c4, c5, c6, c7, c8, b3⟩ := (show _ ∧ _ ∧ _ ∧ _ ∧ _ ∧ _ ∧ _ ∧ _ ∧ _ ∧ Below w.heap.size w _ by assumption)
  have HB := Lib.hid b3
  clear C K2
  obtain ⟨s1, hs1⟩ : ∃ s, s = (⟨#[31, 139, 8]⟩ : ByteArray) ++ fx (f + 1) 1 ++ fx t 4 ++ fx v 1 ++ fx o 1 := ⟨_, rfl⟩
  rw [← hs1]
  have L1 : Hid (s1.data.toList = hdQ (hq t e n c v o true false f)) := Lib.hid (by rw [hs1]; simp only [app_list, fx_list]; rw [HHF.out]; simp only [List.append_assoc]; rfl)
  have g1 : s1.size = 10 := by rw [hs1]; simp only [ByteArray.size_append, z1, z2, z3, z4]; rfl
  clear hs1 z1 z2 z3 z4
  cases h4 : hsF f 4
  · obtain ⟨s2, hs2⟩ : ∃ s, s = s1 := ⟨_, rfl⟩
    rw [← hs2]
    have L2 : Hid (s2.data.toList = hdQ (hq t e n c v o true false f) ++ exQ (hq t e n c v o true false f)) := Lib.hid (by rw [hs2, L1.out]; rw [show exQ (hq t e n c v o true false f) = [] from if_neg (of_decide_eq_false h4), List.append_nil])
    have g2 : s2.size ≤ 65547 := by rw [hs2, g1]; omega
    clear hs2 g1 L1
    cases h8 : hsF f 8
    · cases h16 : hsF f 16
      · go_wp2_with (first | (go_at_call 20; refine (has_any _ _ _ F0.out FM.out (by first | exact .inr (.inr (.inl rfl)) | exact .inr (.inr (.inr (.inl rfl))) | exact .inr (.inr (.inr (.inr rfl))))).mono ?_; rintro e w' ⟨rfl, rfl⟩) | (go_at_call 21; refine (rOf_crl _ _ (by first | omega | (simp only [ByteArray.size_append, hz0]; omega))).mono ?_; rintro e w' ⟨rfl, rfl⟩) | (go_at_call 19; refine (num_fx _ _ _ (ok_crl _)).mono ?_; rintro e w' ⟨rfl, hb5⟩))
        go_ret2
        exact ⟨ret_str_int (plain_leaf (r00 L2.out h8 h16) rfl) rfl, HB.out⟩
      · go_wp2_with (first | (go_at_call 20; refine (has_any _ _ _ F0.out FM.out (by first | exact .inr (.inr (.inl rfl)) | exact .inr (.inr (.inr (.inl rfl))) | exact .inr (.inr (.inr (.inr rfl))))).mono ?_; rintro e w' ⟨rfl, rfl⟩) | (go_at_call 21; refine (rOf_crl _ _ (by first | omega | (simp only [ByteArray.size_append, hz0]; omega))).mono ?_; rintro e w' ⟨rfl, rfl⟩) | (go_at_call 19; refine (num_fx _ _ _ (ok_crl _)).mono ?_; rintro e w' ⟨rfl, hb5⟩))
        go_ret2
        exact ⟨ret_str_int (plain_leaf (r01 L2.out h8 h16) rfl) rfl, HB.out⟩
    · cases h16 : hsF f 16
      · go_wp2_with (first | (go_at_call 20; refine (has_any _ _ _ F0.out FM.out (by first | exact .inr (.inr (.inl rfl)) | exact .inr (.inr (.inr (.inl rfl))) | exact .inr (.inr (.inr (.inr rfl))))).mono ?_; rintro e w' ⟨rfl, rfl⟩) | (go_at_call 21; refine (rOf_crl _ _ (by first | omega | (simp only [ByteArray.size_append, hz0]; omega))).mono ?_; rintro e w' ⟨rfl, rfl⟩) | (go_at_call 19; refine (num_fx _ _ _ (ok_crl _)).mono ?_; rintro e w' ⟨rfl, hb5⟩))
        go_ret2
        exact ⟨ret_str_int (plain_leaf (r10 L2.out h8 h16) rfl) rfl, HB.out⟩
      · go_wp2_with (first | (go_at_call 20; refine (has_any _ _ _ F0.out FM.out (by first | exact .inr (.inr (.inl rfl)) | exact .inr (.inr (.inr (.inl rfl))) | exact .inr (.inr (.inr (.inr rfl))))).mono ?_; rintro e w' ⟨rfl, rfl⟩) | (go_at_call 21; refine (rOf_crl _ _ (by first | omega | (simp only [ByteArray.size_append, hz0]; omega))).mono ?_; rintro e w' ⟨rfl, rfl⟩) | (go_at_call 19; refine (num_fx _ _ _ (ok_crl _)).mono ?_; rintro e w' ⟨rfl, hb5⟩))
        go_ret2
        exact ⟨ret_str_int (plain_leaf (r11 L2.out h8 h16) rfl) rfl, HB.out⟩
  · have q5 : ¬ 9223372036854775807 < 12 + e.size := by omega
    have q6 : ¬ 9223372036854775807 < 10 + 2 + e.size := by omega
    have H4 := Lib.hid h4
    go_wp2_with (go_at_call 20; refine (has_any _ _ _ F0.out FM.out (by first | exact .inr (.inr (.inl rfl)) | exact .inr (.inr (.inr (.inl rfl))) | exact .inr (.inr (.inr (.inr rfl))))).mono ?_; rintro e w' ⟨rfl, rfl⟩)
    go_region_held3 (fun u => u.cell? ⟨w.heap.size, 0, none⟩ = some (.int .i64 t) ∧ u.cell? ⟨w.heap.size, 1, none⟩ = some (.string e) ∧ u.cell? ⟨w.heap.size, 2, none⟩ = some (.string n) ∧ u.cell? ⟨w.heap.size, 3, none⟩ = some (.string c) ∧ u.cell? ⟨w.heap.size, 4, none⟩ = some (.int .i64 v) ∧ u.cell? ⟨w.heap.size, 5, none⟩ = some (.int .i64 o) ∧ u.cell? ⟨w.heap.size, 6, none⟩ = some (.bool true) ∧ u.cell? ⟨w.heap.size, 7, none⟩ = some (.bool false) ∧ u.cell? ⟨w.heap.size, 8, none⟩ = some (.int .i64 f) ∧ Below w.heap.size w u)
      (first | exact ⟨c0, c1, c2, c3, c4, c5, c6, c7, c8, b3.drew⟩ | assumption | (apply keep9; assumption; assumption))
      (first | (go_at_call 19; refine (num_fx _ _ _ (by first | exact O5.out)).mono ?_; rintro e w' ⟨rfl, hb⟩))
    clear c0 c1 c2 c3 c4 c5 c6 c7 c8 b3 HB
    obtain ⟨c0, c1, c2, c3, c4, c5, c6, c7, c8, b3⟩ := (show _ ∧ _ ∧ _ ∧ _ ∧ _ ∧ _ ∧ _ ∧ _ ∧ _ ∧ Below w.heap.size w _ by assumption)
    have HB := Lib.hid b3
    obtain ⟨s2, hs2⟩ : ∃ s, s = s1 ++ fx (e.size : Int) 2 ++ e := ⟨_, rfl⟩
    rw [← hs2]
    have L2 : Hid (s2.data.toList = hdQ (hq t e n c v o true false f) ++ exQ (hq t e n c v o true false f)) := Lib.hid (by
      rw [hs2, app_list, app_list, fx_list, L1.out, List.append_assoc]; rw [show exQ (hq t e n c v o true false f) = le 2 e.data.toList.length ++ e.data.toList from if_pos (of_decide_eq_true H4.out)]
      have : e.size = e.data.toList.length := by rw [Array.length_toList]; rfl
      show _ ++ (le 2 ((e.size : Nat) : Int).toNat ++ e.data.toList) = _ ++ (le 2 e.data.toList.length ++ e.data.toList)
      rw [← this]; rfl)
    have g2 : s2.size ≤ 65547 := by rw [hs2, ByteArray.size_append, ByteArray.size_append, g1, z5]; omega
    clear hs2 g1 L1
    cases h8 : hsF f 8
    · cases h16 : hsF f 16
      · go_wp2_with (first | (go_at_call 20; refine (has_any _ _ _ F0.out FM.out (by first | exact .inr (.inr (.inl rfl)) | exact .inr (.inr (.inr (.inl rfl))) | exact .inr (.inr (.inr (.inr rfl))))).mono ?_; rintro e w' ⟨rfl, rfl⟩) | (go_at_call 21; refine (rOf_crl _ _ (by first | omega | (simp only [ByteArray.size_append, hz0]; omega))).mono ?_; rintro e w' ⟨rfl, rfl⟩) | (go_at_call 19; refine (num_fx _ _ _ (ok_crl _)).mono ?_; rintro e w' ⟨rfl, hb5⟩))
        go_ret2
        exact ⟨ret_str_int (plain_leaf (r00 L2.out h8 h16) rfl) rfl, HB.out⟩
      · go_wp2_with (first | (go_at_call 20; refine (has_any _ _ _ F0.out FM.out (by first | exact .inr (.inr (.inl rfl)) | exact .inr (.inr (.inr (.inl rfl))) | exact .inr (.inr (.inr (.inr rfl))))).mono ?_; rintro e w' ⟨rfl, rfl⟩) | (go_at_call 21; refine (rOf_crl _ _ (by first | omega | (simp only [ByteArray.size_append, hz0]; omega))).mono ?_; rintro e w' ⟨rfl, rfl⟩) | (go_at_call 19; refine (num_fx _ _ _ (ok_crl _)).mono ?_; rintro e w' ⟨rfl, hb5⟩))
        go_ret2
        exact ⟨ret_str_int (plain_leaf (r01 L2.out h8 h16) rfl) rfl, HB.out⟩
    · cases h16 : hsF f 16
      · go_wp2_with (first | (go_at_call 20; refine (has_any _ _ _ F0.out FM.out (by first | exact .inr (.inr (.inl rfl)) | exact .inr (.inr (.inr (.inl rfl))) | exact .inr (.inr (.inr (.inr rfl))))).mono ?_; rintro e w' ⟨rfl, rfl⟩) | (go_at_call 21; refine (rOf_crl _ _ (by first | omega | (simp only [ByteArray.size_append, hz0]; omega))).mono ?_; rintro e w' ⟨rfl, rfl⟩) | (go_at_call 19; refine (num_fx _ _ _ (ok_crl _)).mono ?_; rintro e w' ⟨rfl, hb5⟩))
        go_ret2
        exact ⟨ret_str_int (plain_leaf (r10 L2.out h8 h16) rfl) rfl, HB.out⟩
      · go_wp2_with (first | (go_at_call 20; refine (has_any _ _ _ F0.out FM.out (by first | exact .inr (.inr (.inl rfl)) | exact .inr (.inr (.inr (.inl rfl))) | exact .inr (.inr (.inr (.inr rfl))))).mono ?_; rintro e w' ⟨rfl, rfl⟩) | (go_at_call 21; refine (rOf_crl _ _ (by first | omega | (simp only [ByteArray.size_append, hz0]; omega))).mono ?_; rintro e w' ⟨rfl, rfl⟩) | (go_at_call 19; refine (num_fx _ _ _ (ok_crl _)).mono ?_; rintro e w' ⟨rfl, hb5⟩))
        go_ret2
        exact ⟨ret_str_int (plain_leaf (r11 L2.out h8 h16) rfl) rfl, HB.out⟩
set_option maxHeartbeats 4000000 in
set_option maxRecDepth 100000 in
theorem rBuild_true_true (t : Int) (e n c : ByteArray) (v o : Int) (f : Int) (w : World) (hn : n.size ≤ 1099511627776) (hc : c.size ≤ 1099511627776) (hr : rightQ (hq t e n c v o true true f)) :
    Calls Try.prog 10 #[.agg (cs9 t e n c v o true true f)] w fun e' w' => e' = .returned (.tuple #[.string ⟨(encQ crl (hq t e n c v o true true f)).toArray⟩, .int .i64 0]) ∧ Below w.heap.size w w' := by
  obtain ⟨⟨t0, t1⟩, ⟨v0, v1⟩, ⟨o0, o1⟩, ⟨f0, f1, f2⟩, e0⟩ : (0 ≤ t ∧ t ≤ 4294967295) ∧ (0 ≤ v ∧ v ≤ 255) ∧ (0 ≤ o ∧ o ≤ 255) ∧ (0 ≤ f ∧ f ≤ 28 ∧ f % 4 = 0) ∧ e.data.toList.length ≤ 65535 := ⟨hr.1, hr.2.1, hr.2.2.1, hr.2.2.2.1, hr.2.2.2.2.1.1⟩
  have he : e.size ≤ 65535 := by
    have : e.data.toList.length = e.size := by rw [Array.length_toList]; rfl
    omega
  have HR := Lib.hid (rRight_any t e n c v o true true f · (by omega) (by omega))
  have HN := Lib.hid hr
  have F0 := Lib.hid f0
  have FM := Lib.hid (show f ≤ 9223372036854775807 by omega)
  have HHF : Hid ((f + 1 + 2) = ((flQ (hq t e n c v o true true f) : Nat) : Int)) := Lib.hid (by
    have : flQ (hq t e n c v o true true f) = f.toNat + 1 + 2 := rfl
    rw [this]; omega)
  have k1 : okF (f + 1 + 2) 1 := ⟨.inl rfl, by omega, by show Int.toNat (f + 1 + 2) < 256 ^ 1; omega⟩
  have k2 : okF t 4 := ⟨.inr (.inr rfl), t0, by show t.toNat < 256 ^ 4; omega⟩
  have k3 : okF v 1 := ⟨.inl rfl, v0, by show v.toNat < 256 ^ 1; omega⟩
  have k4 : okF o 1 := ⟨.inl rfl, o0, by show o.toNat < 256 ^ 1; omega⟩
  have k5 : okF (e.size : Int) 2 := ⟨.inr (.inl rfl), by omega, by show (e.size : Int).toNat < 256 ^ 2; omega⟩
  have O1 := Lib.hid k1; have O2 := Lib.hid k2; have O3 := Lib.hid k3; have O4 := Lib.hid k4; have O5 := Lib.hid k5
  have z1 : (fx (f + 1 + 2) 1).size = 1 := fx_size _ _
  have z2 : (fx t 4).size = 4 := fx_size _ _
  have z3 : (fx v 1).size = 1 := fx_size _ _
  have z4 : (fx o 1).size = 1 := fx_size _ _
  have z5 : (fx (e.size : Int) 2).size = 2 := fx_size _ _
  have z6 : ∀ k, (fx k 2).size = 2 := fun k => fx_size _ _
  have hz0 : (⟨#[0]⟩ : ByteArray).size = 1 := rfl
  clear hr k1 k2 k3 k4 k5 t0 t1 v0 v1 o0 o1 e0 f2
  obtain ⟨w1, hw1⟩ : ∃ w1, w1 = w.alloc (.cells (cs9 t e n c v o true true f) 23) := ⟨_, rfl⟩
  have K1 : Hid (Blk w1 w.heap.size 23 (cs9 t e n c v o true true f)) := Lib.hid (by rw [hw1]; exact Blk.fresh w _ _)
  have B1 : Hid (Below w.heap.size w w1) := Lib.hid (by rw [hw1]; exact (Below.refl _ w).alloc (Nat.le_refl _) _)
  go_enter Try.func10, Try.ntmps10
  go_wp2_with fail
  rw [← hw1]
  refine (HR.out w1).mono ?_
  rintro e' w2 ⟨⟨b, rfl, hb⟩, b2⟩
  obtain rfl : b = true := hb.2 HN.out
  have K2 := K1.out.below b2
  have B2 := Lib.hid (grows B1.out b2)
  clear hb b2 hw1
  have C := nine K2
  go_wp2_with fail
  go_region_held3 (fun u => u.cell? ⟨w.heap.size, 0, none⟩ = some (.int .i64 t) ∧ u.cell? ⟨w.heap.size, 1, none⟩ = some (.string e) ∧ u.cell? ⟨w.heap.size, 2, none⟩ = some (.string n) ∧ u.cell? ⟨w.heap.size, 3, none⟩ = some (.string c) ∧ u.cell? ⟨w.heap.size, 4, none⟩ = some (.int .i64 v) ∧ u.cell? ⟨w.heap.size, 5, none⟩ = some (.int .i64 o) ∧ u.cell? ⟨w.heap.size, 6, none⟩ = some (.bool true) ∧ u.cell? ⟨w.heap.size, 7, none⟩ = some (.bool true) ∧ u.cell? ⟨w.heap.size, 8, none⟩ = some (.int .i64 f) ∧ Below w.heap.size w u)
    (first | exact ⟨C.1, C.2.1, C.2.2.1, C.2.2.2.1, C.2.2.2.2.1, C.2.2.2.2.2.1, C.2.2.2.2.2.2.1, C.2.2.2.2.2.2.2.1, C.2.2.2.2.2.2.2.2, B2.out.drew⟩ | assumption | (apply keep9; assumption; assumption))
    (first | (go_at_call 19; refine (num_fx _ _ _ (by first | exact O1.out | exact O2.out | exact O3.out | exact O4.out)).mono ?_; rintro e w' ⟨rfl, hb⟩))
  obtain ⟨c0, c1, c2, c3, c4, c5, c6, c7, c8, b3⟩ := (show _ ∧ _ ∧ _ ∧ _ ∧ _ ∧ _ ∧ _ ∧ _ ∧ _ ∧ Below w.heap.size w _ by assumption)
  have HB := Lib.hid b3
  clear C K2
  obtain ⟨s1, hs1⟩ : ∃ s, s = (⟨#[31, 139, 8]⟩ : ByteArray) ++ fx (f + 1 + 2) 1 ++ fx t 4 ++ fx v 1 ++ fx o 1 := ⟨_, rfl⟩
  rw [← hs1]
  have L1 : Hid (s1.data.toList = hdQ (hq t e n c v o true true f)) := Lib.hid (by rw [hs1]; simp only [app_list, fx_list]; rw [HHF.out]; simp only [List.append_assoc]; rfl)
  have g1 : s1.size = 10 := by rw [hs1]; simp only [ByteArray.size_append, z1, z2, z3, z4]; rfl
  clear hs1 z1 z2 z3 z4
  cases h4 : hsF f 4
  · obtain ⟨s2, hs2⟩ : ∃ s, s = s1 := ⟨_, rfl⟩
    rw [← hs2]
    have L2 : Hid (s2.data.toList = hdQ (hq t e n c v o true true f) ++ exQ (hq t e n c v o true true f)) := Lib.hid (by rw [hs2, L1.out]; rw [show exQ (hq t e n c v o true true f) = [] from if_neg (of_decide_eq_false h4), List.append_nil])
    have g2 : s2.size ≤ 65547 := by rw [hs2, g1]; omega
    clear hs2 g1 L1
    cases h8 : hsF f 8
    · cases h16 : hsF f 16
      · go_wp2_with (first | (go_at_call 20; refine (has_any _ _ _ F0.out FM.out (by first | exact .inr (.inr (.inl rfl)) | exact .inr (.inr (.inr (.inl rfl))) | exact .inr (.inr (.inr (.inr rfl))))).mono ?_; rintro e w' ⟨rfl, rfl⟩) | (go_at_call 21; refine (rOf_crl _ _ (by first | omega | (simp only [ByteArray.size_append, hz0]; omega))).mono ?_; rintro e w' ⟨rfl, rfl⟩) | (go_at_call 19; refine (num_fx _ _ _ (ok_crl _)).mono ?_; rintro e w' ⟨rfl, hb5⟩))
        go_ret2
        exact ⟨ret_str_int (rsum_leaf (r00 L2.out h8 h16) rfl) rfl, grows HB.out hb5⟩
      · go_wp2_with (first | (go_at_call 20; refine (has_any _ _ _ F0.out FM.out (by first | exact .inr (.inr (.inl rfl)) | exact .inr (.inr (.inr (.inl rfl))) | exact .inr (.inr (.inr (.inr rfl))))).mono ?_; rintro e w' ⟨rfl, rfl⟩) | (go_at_call 21; refine (rOf_crl _ _ (by first | omega | (simp only [ByteArray.size_append, hz0]; omega))).mono ?_; rintro e w' ⟨rfl, rfl⟩) | (go_at_call 19; refine (num_fx _ _ _ (ok_crl _)).mono ?_; rintro e w' ⟨rfl, hb5⟩))
        go_ret2
        exact ⟨ret_str_int (rsum_leaf (r01 L2.out h8 h16) rfl) rfl, grows HB.out hb5⟩
    · cases h16 : hsF f 16
      · go_wp2_with (first | (go_at_call 20; refine (has_any _ _ _ F0.out FM.out (by first | exact .inr (.inr (.inl rfl)) | exact .inr (.inr (.inr (.inl rfl))) | exact .inr (.inr (.inr (.inr rfl))))).mono ?_; rintro e w' ⟨rfl, rfl⟩) | (go_at_call 21; refine (rOf_crl _ _ (by first | omega | (simp only [ByteArray.size_append, hz0]; omega))).mono ?_; rintro e w' ⟨rfl, rfl⟩) | (go_at_call 19; refine (num_fx _ _ _ (ok_crl _)).mono ?_; rintro e w' ⟨rfl, hb5⟩))
        go_ret2
        exact ⟨ret_str_int (rsum_leaf (r10 L2.out h8 h16) rfl) rfl, grows HB.out hb5⟩
      · go_wp2_with (first | (go_at_call 20; refine (has_any _ _ _ F0.out FM.out (by first | exact .inr (.inr (.inl rfl)) | exact .inr (.inr (.inr (.inl rfl))) | exact .inr (.inr (.inr (.inr rfl))))).mono ?_; rintro e w' ⟨rfl, rfl⟩) | (go_at_call 21; refine (rOf_crl _ _ (by first | omega | (simp only [ByteArray.size_append, hz0]; omega))).mono ?_; rintro e w' ⟨rfl, rfl⟩) | (go_at_call 19; refine (num_fx _ _ _ (ok_crl _)).mono ?_; rintro e w' ⟨rfl, hb5⟩))
        go_ret2
        exact ⟨ret_str_int (rsum_leaf (r11 L2.out h8 h16) rfl) rfl, grows HB.out hb5⟩
  · have q5 : ¬ 9223372036854775807 < 12 + e.size := by omega
    have q6 : ¬ 9223372036854775807 < 10 + 2 + e.size := by omega
    have H4 := Lib.hid h4
    go_wp2_with (go_at_call 20; refine (has_any _ _ _ F0.out FM.out (by first | exact .inr (.inr (.inl rfl)) | exact .inr (.inr (.inr (.inl rfl))) | exact .inr (.inr (.inr (.inr rfl))))).mono ?_; rintro e w' ⟨rfl, rfl⟩)
    go_region_held3 (fun u => u.cell? ⟨w.heap.size, 0, none⟩ = some (.int .i64 t) ∧ u.cell? ⟨w.heap.size, 1, none⟩ = some (.string e) ∧ u.cell? ⟨w.heap.size, 2, none⟩ = some (.string n) ∧ u.cell? ⟨w.heap.size, 3, none⟩ = some (.string c) ∧ u.cell? ⟨w.heap.size, 4, none⟩ = some (.int .i64 v) ∧ u.cell? ⟨w.heap.size, 5, none⟩ = some (.int .i64 o) ∧ u.cell? ⟨w.heap.size, 6, none⟩ = some (.bool true) ∧ u.cell? ⟨w.heap.size, 7, none⟩ = some (.bool true) ∧ u.cell? ⟨w.heap.size, 8, none⟩ = some (.int .i64 f) ∧ Below w.heap.size w u)
      (first | exact ⟨c0, c1, c2, c3, c4, c5, c6, c7, c8, b3.drew⟩ | assumption | (apply keep9; assumption; assumption))
      (first | (go_at_call 19; refine (num_fx _ _ _ (by first | exact O5.out)).mono ?_; rintro e w' ⟨rfl, hb⟩))
    clear c0 c1 c2 c3 c4 c5 c6 c7 c8 b3 HB
    obtain ⟨c0, c1, c2, c3, c4, c5, c6, c7, c8, b3⟩ := (show _ ∧ _ ∧ _ ∧ _ ∧ _ ∧ _ ∧ _ ∧ _ ∧ _ ∧ Below w.heap.size w _ by assumption)
    have HB := Lib.hid b3
    obtain ⟨s2, hs2⟩ : ∃ s, s = s1 ++ fx (e.size : Int) 2 ++ e := ⟨_, rfl⟩
    rw [← hs2]
    have L2 : Hid (s2.data.toList = hdQ (hq t e n c v o true true f) ++ exQ (hq t e n c v o true true f)) := Lib.hid (by
      rw [hs2, app_list, app_list, fx_list, L1.out, List.append_assoc]; rw [show exQ (hq t e n c v o true true f) = le 2 e.data.toList.length ++ e.data.toList from if_pos (of_decide_eq_true H4.out)]
      have : e.size = e.data.toList.length := by rw [Array.length_toList]; rfl
      show _ ++ (le 2 ((e.size : Nat) : Int).toNat ++ e.data.toList) = _ ++ (le 2 e.data.toList.length ++ e.data.toList)
      rw [← this]; rfl)
    have g2 : s2.size ≤ 65547 := by rw [hs2, ByteArray.size_append, ByteArray.size_append, g1, z5]; omega
    clear hs2 g1 L1
    cases h8 : hsF f 8
    · cases h16 : hsF f 16
      · go_wp2_with (first | (go_at_call 20; refine (has_any _ _ _ F0.out FM.out (by first | exact .inr (.inr (.inl rfl)) | exact .inr (.inr (.inr (.inl rfl))) | exact .inr (.inr (.inr (.inr rfl))))).mono ?_; rintro e w' ⟨rfl, rfl⟩) | (go_at_call 21; refine (rOf_crl _ _ (by first | omega | (simp only [ByteArray.size_append, hz0]; omega))).mono ?_; rintro e w' ⟨rfl, rfl⟩) | (go_at_call 19; refine (num_fx _ _ _ (ok_crl _)).mono ?_; rintro e w' ⟨rfl, hb5⟩))
        go_ret2
        exact ⟨ret_str_int (rsum_leaf (r00 L2.out h8 h16) rfl) rfl, grows HB.out hb5⟩
      · go_wp2_with (first | (go_at_call 20; refine (has_any _ _ _ F0.out FM.out (by first | exact .inr (.inr (.inl rfl)) | exact .inr (.inr (.inr (.inl rfl))) | exact .inr (.inr (.inr (.inr rfl))))).mono ?_; rintro e w' ⟨rfl, rfl⟩) | (go_at_call 21; refine (rOf_crl _ _ (by first | omega | (simp only [ByteArray.size_append, hz0]; omega))).mono ?_; rintro e w' ⟨rfl, rfl⟩) | (go_at_call 19; refine (num_fx _ _ _ (ok_crl _)).mono ?_; rintro e w' ⟨rfl, hb5⟩))
        go_ret2
        exact ⟨ret_str_int (rsum_leaf (r01 L2.out h8 h16) rfl) rfl, grows HB.out hb5⟩
    · cases h16 : hsF f 16
      · go_wp2_with (first | (go_at_call 20; refine (has_any _ _ _ F0.out FM.out (by first | exact .inr (.inr (.inl rfl)) | exact .inr (.inr (.inr (.inl rfl))) | exact .inr (.inr (.inr (.inr rfl))))).mono ?_; rintro e w' ⟨rfl, rfl⟩) | (go_at_call 21; refine (rOf_crl _ _ (by first | omega | (simp only [ByteArray.size_append, hz0]; omega))).mono ?_; rintro e w' ⟨rfl, rfl⟩) | (go_at_call 19; refine (num_fx _ _ _ (ok_crl _)).mono ?_; rintro e w' ⟨rfl, hb5⟩))
        go_ret2
        exact ⟨ret_str_int (rsum_leaf (r10 L2.out h8 h16) rfl) rfl, grows HB.out hb5⟩
      · go_wp2_with (first | (go_at_call 20; refine (has_any _ _ _ F0.out FM.out (by first | exact .inr (.inr (.inl rfl)) | exact .inr (.inr (.inr (.inl rfl))) | exact .inr (.inr (.inr (.inr rfl))))).mono ?_; rintro e w' ⟨rfl, rfl⟩) | (go_at_call 21; refine (rOf_crl _ _ (by first | omega | (simp only [ByteArray.size_append, hz0]; omega))).mono ?_; rintro e w' ⟨rfl, rfl⟩) | (go_at_call 19; refine (num_fx _ _ _ (ok_crl _)).mono ?_; rintro e w' ⟨rfl, hb5⟩))
        go_ret2
        exact ⟨ret_str_int (rsum_leaf (r11 L2.out h8 h16) rfl) rfl, grows HB.out hb5⟩
theorem rBuild_yes (t : Int) (e n c : ByteArray) (v o : Int) (x m : Bool) (f : Int) (w : World) (hn : n.size ≤ 1099511627776) (hc : c.size ≤ 1099511627776) (hr : rightQ (hq t e n c v o x m f)) :
    Calls Try.prog 10 #[.agg (cs9 t e n c v o x m f)] w fun e' w' => e' = .returned (.tuple #[.string ⟨(encQ crl (hq t e n c v o x m f)).toArray⟩, .int .i64 0]) ∧ Below w.heap.size w w' := by
  cases x <;> cases m
  · exact rBuild_false_false t e n c v o f w hn hc hr
  · exact rBuild_false_true t e n c v o f w hn hc hr
  · exact rBuild_true_false t e n c v o f w hn hc hr
  · exact rBuild_true_true t e n c v o f w hn hc hr
end Go.Proofs.Ytgilfjojimgpaaa.Qg
