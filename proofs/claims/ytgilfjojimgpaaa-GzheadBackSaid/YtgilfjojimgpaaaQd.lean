/-
  gzhead.Build, called with any head: its bytes, or what is wrong.
  Conditions: a name and a note of at most 2^40 bytes.
-/
import Derived.Test.YtgilfjojimgpaaaQc
namespace Go.Proofs.Ytgilfjojimgpaaa.Qd
open Go.RowKit Go.Proofs.Ytgilfjojimgpaaa.Vm Go.Proofs.Ytgilfjojimgpaaa.Vo Go.Proofs.Ytgilfjojimgpaaa.Vf Go.Proofs.Ytgilfjojimgpaaa.Bw Go.Proofs.Ytgilfjojimgpaaa.Qm Go.Proofs.Ytgilfjojimgpaaa.Qa Go.Proofs.Ytgilfjojimgpaaa.Qb Go.Proofs.Ytgilfjojimgpaaa.Qc

/-- A fixed number as a string. -/
def fx (n k : Int) : ByteArray := ⟨(le k.toNat n.toNat).toArray⟩
theorem fx_list (n k : Int) : (fx n k).data.toList = le k.toNat n.toNat := rfl
theorem fx_size (n k : Int) : (fx n k).size = k.toNat := by
  show (le k.toNat n.toNat).toArray.size = _
  rw [List.size_toArray, le_length]
def okF (n k : Int) : Prop := (k = 1 ∨ k = 2 ∨ k = 4) ∧ 0 ≤ n ∧ n.toNat < 256 ^ k.toNat
theorem fixed_fx (n k : Int) (w : World) (h : okF n k) : Calls Try.prog 16 #[.int .i64 n, .int .i64 k] w fun e w' => e = .returned (.string (fx n k)) ∧ Below w.heap.size w w' := by
  obtain ⟨h1, h2, h3⟩ := h
  obtain ⟨N, rfl⟩ := Int.eq_ofNat_of_zero_le h2
  obtain ⟨K, rfl⟩ := Int.eq_ofNat_of_zero_le (show 0 ≤ k by omega)
  exact fixed_any N K w (by omega) h3
/-- The sum of a text's bytes, cut to two bytes. -/
def crl (l : List UInt8) : Nat := Cm.con 0 l
def sumF (s : ByteArray) : Int := ((crl s.data.toList % 65536 : Nat) : Int)
theorem ok_sum (s : ByteArray) : okF (sumF s) 2 := by
  refine ⟨.inr (.inl rfl), by unfold sumF; omega, ?_⟩
  show (sumF s).toNat < 256 ^ 2
  unfold sumF; omega
theorem checksum_sum (s : ByteArray) (w : World) (hs : s.size ≤ 9223372036854775807) : Calls Try.prog 18 #[.string s] w fun e w' => e = .returned (.int .i64 (sumF s)) ∧ Below w.heap.size w w' := checksum_any s w hs
theorem app_list (a b : ByteArray) : (a ++ b).data.toList = a.data.toList ++ b.data.toList := by
  rw [ByteArray.data_append, Array.toList_append]
theorem str_list {x : ByteArray} {l : List UInt8} (h : x.data.toList = l) : x = ⟨l.toArray⟩ := by
  apply ByteArray.ext
  rw [← h]
theorem sum_leaf {q : Hq} {B : ByteArray} (hB : B.data.toList = boQ q) (hm : q.m = true) : B ++ fx (sumF B) 2 = ⟨(encQ crl q).toArray⟩ := by
  refine str_list ?_
  rw [app_list, fx_list, hB]
  unfold encQ smQ
  rw [if_pos hm]
  have : (sumF B).toNat = crl (boQ q) % 65536 := by unfold sumF; rw [hB]; rfl
  rw [this]
  rfl
theorem plain_leaf {q : Hq} {B : ByteArray} (hB : B.data.toList = boQ q) (hm : q.m = false) : B = ⟨(encQ crl q).toArray⟩ := by
  refine str_list ?_
  unfold encQ smQ
  rw [if_neg (by rw [hm]; simp), List.append_nil, hB]

theorem cell_later {w w' : World} {p : Addr} {v : Value} (h : w.cell? p = some v) (hb : Below w.heap.size w w') : w'.cell? p = some v := by
  have hlt : p.block < w.heap.size := by
    apply Decidable.byContradiction
    intro hn
    have : w.heap[p.block]? = none := Array.getElem?_eq_none (by omega)
    simp [World.cell?, this] at h
  rw [← h]
  exact hb.cell hlt
section
variable {w a b : World} {g : Nat} {v0 v1 v2 v3 v4 v5 v6 v7 v8 : Value}
theorem nine {t : Int} {e n c : ByteArray} {v o : Int} {x m : Bool} {f : Int} {T : TypeId} (h : Blk a g T (cs9 t e n c v o x m f)) : a.cell? ⟨g, 0, none⟩ = some (.int .i64 t) ∧ a.cell? ⟨g, 1, none⟩ = some (.string e) ∧ a.cell? ⟨g, 2, none⟩ = some (.string n) ∧ a.cell? ⟨g, 3, none⟩ = some (.string c) ∧ a.cell? ⟨g, 4, none⟩ = some (.int .i64 v) ∧ a.cell? ⟨g, 5, none⟩ = some (.int .i64 o) ∧ a.cell? ⟨g, 6, none⟩ = some (.bool x) ∧ a.cell? ⟨g, 7, none⟩ = some (.bool m) ∧ a.cell? ⟨g, 8, none⟩ = some (.int .i64 f) :=
  ⟨h.cell 0, h.cell 1, h.cell 2, h.cell 3, h.cell 4, h.cell 5, h.cell 6, h.cell 7, h.cell 8⟩
theorem keep9 (hb : Below a.heap.size a b) (h : a.cell? ⟨g, 0, none⟩ = some v0 ∧ a.cell? ⟨g, 1, none⟩ = some v1 ∧ a.cell? ⟨g, 2, none⟩ = some v2 ∧ a.cell? ⟨g, 3, none⟩ = some v3 ∧ a.cell? ⟨g, 4, none⟩ = some v4 ∧ a.cell? ⟨g, 5, none⟩ = some v5 ∧ a.cell? ⟨g, 6, none⟩ = some v6 ∧ a.cell? ⟨g, 7, none⟩ = some v7 ∧ a.cell? ⟨g, 8, none⟩ = some v8 ∧ Below w.heap.size w a) :
    b.cell? ⟨g, 0, none⟩ = some v0 ∧ b.cell? ⟨g, 1, none⟩ = some v1 ∧ b.cell? ⟨g, 2, none⟩ = some v2 ∧ b.cell? ⟨g, 3, none⟩ = some v3 ∧ b.cell? ⟨g, 4, none⟩ = some v4 ∧ b.cell? ⟨g, 5, none⟩ = some v5 ∧ b.cell? ⟨g, 6, none⟩ = some v6 ∧ b.cell? ⟨g, 7, none⟩ = some v7 ∧ b.cell? ⟨g, 8, none⟩ = some v8 ∧ Below w.heap.size w b := by
  obtain ⟨h0, h1, h2, h3, h4, h5, h6, h7, h8, h9⟩ := h
  exact ⟨cell_later h0 hb, cell_later h1 hb, cell_later h2 hb, cell_later h3 hb, cell_later h4 hb, cell_later h5 hb, cell_later h6 hb, cell_later h7 hb, cell_later h8 hb, grows h9 hb⟩
end

set_option maxHeartbeats 2000000 in
set_option maxRecDepth 100000 in
theorem Build_no (t : Int) (e n c : ByteArray) (v o : Int) (x m : Bool) (f : Int) (w : World) (h0 : -9223372036854775808 ≤ f) (h1 : f ≤ 9223372036854775807) (hr : ¬ rightQ (hq t e n c v o x m f)) :
    Calls Try.prog 9 #[.agg (cs9 t e n c v o x m f)] w fun e' w' => e' = .returned (.tuple #[.string ⟨#[]⟩, .int .i64 4]) ∧ Below w.heap.size w w' := by
  have HR := Lib.hid (Right_any t e n c v o x m f · h0 h1)
  have HN := Lib.hid hr
  clear h0 h1 hr
  obtain ⟨w1, hw1⟩ : ∃ w1, w1 = w.alloc (.cells (cs9 t e n c v o x m f) 23) := ⟨_, rfl⟩
  have K1 : Hid (Blk w1 w.heap.size 23 (cs9 t e n c v o x m f)) := Lib.hid (by rw [hw1]; exact Blk.fresh w _ _)
  have B1 : Hid (Below w.heap.size w w1) := Lib.hid (by rw [hw1]; exact (Below.refl _ w).alloc (Nat.le_refl _) _)
  go_enter Try.func9, Try.ntmps9
  go_wp2_with fail
  rw [← hw1]
  refine (HR.out w1).mono ?_
  rintro e' w2 ⟨⟨b, rfl, hb⟩, b2⟩
  obtain rfl : b = false := by
    cases b
    · rfl
    · exact absurd (hb.1 rfl) HN.out
  have B2 := Lib.hid (grows B1.out b2)
  clear hb b2 hw1
  go_wp2
  go_ret2
  exact ⟨rfl, B2.out⟩

section
variable {q : Hq} {s n c : ByteArray} (L : s.data.toList = hdQ q ++ exQ q)
include L
theorem b00 (h8 : ¬ q.f / 8 % 2 = 1) (h16 : ¬ q.f / 16 % 2 = 1) : s.data.toList = boQ q := by
  rw [L]; unfold boQ naQ noQ; rw [if_neg h8, if_neg h16, List.append_nil, List.append_nil]
theorem b10 (h8 : q.f / 8 % 2 = 1) (h16 : ¬ q.f / 16 % 2 = 1) (hn : q.n = n.data.toList := by rfl) : (s ++ (n ++ ⟨#[0]⟩)).data.toList = boQ q := by
  rw [app_list, app_list, L]; unfold boQ naQ noQ; rw [if_pos h8, if_neg h16, List.append_nil, hn, List.append_assoc]
theorem b01 (h8 : ¬ q.f / 8 % 2 = 1) (h16 : q.f / 16 % 2 = 1) (hc : q.c = c.data.toList := by rfl) : (s ++ (c ++ ⟨#[0]⟩)).data.toList = boQ q := by
  rw [app_list, app_list, L]; unfold boQ naQ noQ; rw [if_neg h8, if_pos h16, List.nil_append, hc, List.append_assoc]
theorem b11 (h8 : q.f / 8 % 2 = 1) (h16 : q.f / 16 % 2 = 1) (hn : q.n = n.data.toList := by rfl) (hc : q.c = c.data.toList := by rfl) : (s ++ (n ++ ⟨#[0]⟩) ++ (c ++ ⟨#[0]⟩)).data.toList = boQ q := by
  simp only [app_list, L]; unfold boQ naQ noQ; rw [if_pos h8, if_pos h16, hn, hc]; simp only [List.append_assoc]
end
set_option maxHeartbeats 4000000 in
set_option maxRecDepth 100000 in
theorem Build_yes (t : Int) (e n c : ByteArray) (v o : Int) (x m : Bool) (f : Int) (w : World) (hn : n.size ≤ 1099511627776) (hc : c.size ≤ 1099511627776) (hr : rightQ (hq t e n c v o x m f)) :
    Calls Try.prog 9 #[.agg (cs9 t e n c v o x m f)] w fun e' w' => e' = .returned (.tuple #[.string ⟨(encQ crl (hq t e n c v o x m f)).toArray⟩, .int .i64 0]) ∧ Below w.heap.size w w' := by
  obtain ⟨⟨t0, t1⟩, ⟨v0, v1⟩, ⟨o0, o1⟩, ⟨f0, f1, f2⟩, e0⟩ : (0 ≤ t ∧ t ≤ 4294967295) ∧ (0 ≤ v ∧ v ≤ 255) ∧ (0 ≤ o ∧ o ≤ 255) ∧ (0 ≤ f ∧ f ≤ 28 ∧ f % 4 = 0) ∧ e.data.toList.length ≤ 65535 := ⟨hr.1, hr.2.1, hr.2.2.1, hr.2.2.2.1, hr.2.2.2.2.1.1⟩
  have he : e.size ≤ 65535 := by
    have : e.data.toList.length = e.size := by rw [Array.length_toList]; rfl
    omega
  have HR := Lib.hid (Right_any t e n c v o x m f · (by omega) (by omega))
  have HN := Lib.hid hr
  obtain ⟨F, hF⟩ : ∃ F : Int, F = ((flQ (hq t e n c v o x m f) : Nat) : Int) := ⟨_, rfl⟩
  have HFL : Hid (∀ u, Calls Try.prog 17 #[.agg (cs9 t e n c v o x m f)] u fun e' w' => e' = .returned (.int .i64 F) ∧ Below u.heap.size u w') := Lib.hid (fun u => by rw [hF]; exact flagByte_any t e n c v o x m f u ⟨f0, f1⟩)
  have hF32 := (fl_of hr).1
  have k1 : okF F 1 := ⟨.inl rfl, by omega, by show F.toNat < 256 ^ 1; omega⟩
  have k2 : okF t 4 := ⟨.inr (.inr rfl), t0, by show t.toNat < 256 ^ 4; omega⟩
  have k3 : okF v 1 := ⟨.inl rfl, v0, by show v.toNat < 256 ^ 1; omega⟩
  have k4 : okF o 1 := ⟨.inl rfl, o0, by show o.toNat < 256 ^ 1; omega⟩
  have k5 : okF (e.size : Int) 2 := ⟨.inr (.inl rfl), by omega, by show (e.size : Int).toNat < 256 ^ 2; omega⟩
  have O1 := Lib.hid k1; have O2 := Lib.hid k2; have O3 := Lib.hid k3; have O4 := Lib.hid k4; have O5 := Lib.hid k5
  have z1 : (fx F 1).size = 1 := fx_size _ _
  have z2 : (fx t 4).size = 4 := fx_size _ _
  have z3 : (fx v 1).size = 1 := fx_size _ _
  have z4 : (fx o 1).size = 1 := fx_size _ _
  have z5 : (fx (e.size : Int) 2).size = 2 := fx_size _ _
  have z6 : ∀ k, (fx k 2).size = 2 := fun k => fx_size _ _
  have hz0 : (⟨#[0]⟩ : ByteArray).size = 1 := rfl
  have HHF := Lib.hid hF
  have hfg := and_flag ⟨f0, f1, f2⟩
  obtain ⟨y4, hy4⟩ : ∃ y, bits .and .i64 f 4 = y := ⟨_, rfl⟩
  obtain ⟨y8, hy8⟩ : ∃ y, bits .and .i64 f 8 = y := ⟨_, rfl⟩
  obtain ⟨y16, hy16⟩ : ∃ y, bits .and .i64 f 16 = y := ⟨_, rfl⟩
  rw [hy4, hy8, hy16] at hfg
  have HFG := Lib.hid hfg
  clear hfg
  clear hr k1 k2 k3 k4 k5 hF hF32 t0 t1 v0 v1 o0 o1 e0 f0 f1 f2
  obtain ⟨w1, hw1⟩ : ∃ w1, w1 = w.alloc (.cells (cs9 t e n c v o x m f) 23) := ⟨_, rfl⟩
  have K1 : Hid (Blk w1 w.heap.size 23 (cs9 t e n c v o x m f)) := Lib.hid (by rw [hw1]; exact Blk.fresh w _ _)
  have B1 : Hid (Below w.heap.size w w1) := Lib.hid (by rw [hw1]; exact (Below.refl _ w).alloc (Nat.le_refl _) _)
  go_enter Try.func9, Try.ntmps9
  go_wp2_with fail
  rw [← hw1]
  refine (HR.out w1).mono ?_
  rintro e' w2 ⟨⟨b, rfl, hb⟩, b2⟩
  obtain rfl : b = true := hb.2 HN.out
  have K2 := K1.out.below b2
  have B2 := Lib.hid (grows B1.out b2)
  clear hb b2 hw1
  have C := nine K2
  go_wp2_with fail
  go_region_held3 (fun u => u.cell? ⟨w.heap.size, 0, none⟩ = some (.int .i64 t) ∧ u.cell? ⟨w.heap.size, 1, none⟩ = some (.string e) ∧ u.cell? ⟨w.heap.size, 2, none⟩ = some (.string n) ∧ u.cell? ⟨w.heap.size, 3, none⟩ = some (.string c) ∧ u.cell? ⟨w.heap.size, 4, none⟩ = some (.int .i64 v) ∧ u.cell? ⟨w.heap.size, 5, none⟩ = some (.int .i64 o) ∧ u.cell? ⟨w.heap.size, 6, none⟩ = some (.bool x) ∧ u.cell? ⟨w.heap.size, 7, none⟩ = some (.bool m) ∧ u.cell? ⟨w.heap.size, 8, none⟩ = some (.int .i64 f) ∧ Below w.heap.size w u)
    (first | exact ⟨C.1, C.2.1, C.2.2.1, C.2.2.2.1, C.2.2.2.2.1, C.2.2.2.2.2.1, C.2.2.2.2.2.2.1, C.2.2.2.2.2.2.2.1, C.2.2.2.2.2.2.2.2, B2.out.drew⟩ | assumption | (apply keep9; assumption; assumption))
    (first | (go_at_call 17; refine (HFL.out _).mono ?_; rintro e w' ⟨rfl, hb⟩) | (go_at_call 16; refine (fixed_fx _ _ _ (by first | exact O1.out | exact O2.out | exact O3.out | exact O4.out)).mono ?_; rintro e w' ⟨rfl, hb⟩))
  obtain ⟨c0, c1, c2, c3, c4, c5, c6, c7, c8, b3⟩ := (show _ ∧ _ ∧ _ ∧ _ ∧ _ ∧ _ ∧ _ ∧ _ ∧ _ ∧ Below w.heap.size w _ by assumption)
  have HB := Lib.hid b3
  clear C K2
  obtain ⟨s1, hs1⟩ : ∃ s, s = (⟨#[31, 139, 8]⟩ : ByteArray) ++ fx F 1 ++ fx t 4 ++ fx v 1 ++ fx o 1 := ⟨_, rfl⟩
  rw [← hs1]
  have L1 : Hid (s1.data.toList = hdQ (hq t e n c v o x m f)) := Lib.hid (by rw [hs1]; simp only [app_list, fx_list]; rw [HHF.out]; simp only [List.append_assoc]; rfl)
  have g1 : s1.size = 10 := by rw [hs1]; simp only [ByteArray.size_append, z1, z2, z3, z4]; rfl
  clear hs1 z1 z2 z3 z4
  by_cases hk4 : y4 = 0
  · have hq4 : (y4 != 0) = false := by simpa using hk4
    obtain ⟨s2, hs2⟩ : ∃ s, s = s1 := ⟨_, rfl⟩
    rw [← hs2]
    have L2 : Hid (s2.data.toList = hdQ (hq t e n c v o x m f) ++ exQ (hq t e n c v o x m f)) := Lib.hid (by rw [hs2, L1.out]; rw [show exQ (hq t e n c v o x m f) = [] from if_neg (fun h => (HFG.out.1.2 h) hk4), List.append_nil])
    have g2 : s2.size ≤ 65547 := by rw [hs2, g1]; omega
    clear hs2 g1 L1 hk4
    by_cases hk8 : y8 = 0
    · have hq8 : (y8 != 0) = false := by simpa using hk8
      have HK8 := Lib.hid hk8
      clear hk8
      by_cases hk16 : y16 = 0
      · have hq16 : (y16 != 0) = false := by simpa using hk16
        have HK16 := Lib.hid hk16
        clear hk16
        cases m
        · go_wp2_with (first | (go_at_call 18; refine (checksum_sum _ _ (by first | omega | (simp only [ByteArray.size_append, hz0]; omega))).mono ?_; rintro e w' ⟨rfl, hb4⟩) | (go_at_call 16; refine (fixed_fx _ _ _ (ok_sum _)).mono ?_; rintro e w' ⟨rfl, hb5⟩))
          go_ret2
          exact ⟨ret_str_int (plain_leaf (b00 L2.out (fun h => (HFG.out.2.1.2 h) HK8.out) (fun h => (HFG.out.2.2.2 h) HK16.out)) rfl) rfl, HB.out⟩
        · go_wp2_with (first | (go_at_call 18; refine (checksum_sum _ _ (by first | omega | (simp only [ByteArray.size_append, hz0]; omega))).mono ?_; rintro e w' ⟨rfl, hb4⟩) | (go_at_call 16; refine (fixed_fx _ _ _ (ok_sum _)).mono ?_; rintro e w' ⟨rfl, hb5⟩))
          go_ret2
          exact ⟨ret_str_int (sum_leaf (b00 L2.out (fun h => (HFG.out.2.1.2 h) HK8.out) (fun h => (HFG.out.2.2.2 h) HK16.out)) rfl) rfl, grows (grows HB.out hb4) hb5⟩
      · have hq16 : (y16 != 0) = true := by simpa using hk16
        have HK16 := Lib.hid hk16
        clear hk16
        cases m
        · go_wp2_with (first | (go_at_call 18; refine (checksum_sum _ _ (by first | omega | (simp only [ByteArray.size_append, hz0]; omega))).mono ?_; rintro e w' ⟨rfl, hb4⟩) | (go_at_call 16; refine (fixed_fx _ _ _ (ok_sum _)).mono ?_; rintro e w' ⟨rfl, hb5⟩))
          go_ret2
          exact ⟨ret_str_int (plain_leaf (b01 L2.out (fun h => (HFG.out.2.1.2 h) HK8.out) (HFG.out.2.2.1 HK16.out)) rfl) rfl, HB.out⟩
        · go_wp2_with (first | (go_at_call 18; refine (checksum_sum _ _ (by first | omega | (simp only [ByteArray.size_append, hz0]; omega))).mono ?_; rintro e w' ⟨rfl, hb4⟩) | (go_at_call 16; refine (fixed_fx _ _ _ (ok_sum _)).mono ?_; rintro e w' ⟨rfl, hb5⟩))
          go_ret2
          exact ⟨ret_str_int (sum_leaf (b01 L2.out (fun h => (HFG.out.2.1.2 h) HK8.out) (HFG.out.2.2.1 HK16.out)) rfl) rfl, grows (grows HB.out hb4) hb5⟩
    · have hq8 : (y8 != 0) = true := by simpa using hk8
      have HK8 := Lib.hid hk8
      clear hk8
      by_cases hk16 : y16 = 0
      · have hq16 : (y16 != 0) = false := by simpa using hk16
        have HK16 := Lib.hid hk16
        clear hk16
        cases m
        · go_wp2_with (first | (go_at_call 18; refine (checksum_sum _ _ (by first | omega | (simp only [ByteArray.size_append, hz0]; omega))).mono ?_; rintro e w' ⟨rfl, hb4⟩) | (go_at_call 16; refine (fixed_fx _ _ _ (ok_sum _)).mono ?_; rintro e w' ⟨rfl, hb5⟩))
          go_ret2
          exact ⟨ret_str_int (plain_leaf (b10 L2.out (HFG.out.2.1.1 HK8.out) (fun h => (HFG.out.2.2.2 h) HK16.out)) rfl) rfl, HB.out⟩
        · go_wp2_with (first | (go_at_call 18; refine (checksum_sum _ _ (by first | omega | (simp only [ByteArray.size_append, hz0]; omega))).mono ?_; rintro e w' ⟨rfl, hb4⟩) | (go_at_call 16; refine (fixed_fx _ _ _ (ok_sum _)).mono ?_; rintro e w' ⟨rfl, hb5⟩))
          go_ret2
          exact ⟨ret_str_int (sum_leaf (b10 L2.out (HFG.out.2.1.1 HK8.out) (fun h => (HFG.out.2.2.2 h) HK16.out)) rfl) rfl, grows (grows HB.out hb4) hb5⟩
      · have hq16 : (y16 != 0) = true := by simpa using hk16
        have HK16 := Lib.hid hk16
        clear hk16
        cases m
        · go_wp2_with (first | (go_at_call 18; refine (checksum_sum _ _ (by first | omega | (simp only [ByteArray.size_append, hz0]; omega))).mono ?_; rintro e w' ⟨rfl, hb4⟩) | (go_at_call 16; refine (fixed_fx _ _ _ (ok_sum _)).mono ?_; rintro e w' ⟨rfl, hb5⟩))
          go_ret2
          exact ⟨ret_str_int (plain_leaf (b11 L2.out (HFG.out.2.1.1 HK8.out) (HFG.out.2.2.1 HK16.out)) rfl) rfl, HB.out⟩
        · go_wp2_with (first | (go_at_call 18; refine (checksum_sum _ _ (by first | omega | (simp only [ByteArray.size_append, hz0]; omega))).mono ?_; rintro e w' ⟨rfl, hb4⟩) | (go_at_call 16; refine (fixed_fx _ _ _ (ok_sum _)).mono ?_; rintro e w' ⟨rfl, hb5⟩))
          go_ret2
          exact ⟨ret_str_int (sum_leaf (b11 L2.out (HFG.out.2.1.1 HK8.out) (HFG.out.2.2.1 HK16.out)) rfl) rfl, grows (grows HB.out hb4) hb5⟩
  · have hq4 : (y4 != 0) = true := by simpa using hk4
    have HK4 := Lib.hid hk4
    have q5 : ¬ 9223372036854775807 < 2 + e.size := by omega
    have q6 : ¬ 9223372036854775807 < 10 + (2 + e.size) := by omega
    clear hk4
    go_wp2_with fail
    go_region_held3 (fun u => u.cell? ⟨w.heap.size, 0, none⟩ = some (.int .i64 t) ∧ u.cell? ⟨w.heap.size, 1, none⟩ = some (.string e) ∧ u.cell? ⟨w.heap.size, 2, none⟩ = some (.string n) ∧ u.cell? ⟨w.heap.size, 3, none⟩ = some (.string c) ∧ u.cell? ⟨w.heap.size, 4, none⟩ = some (.int .i64 v) ∧ u.cell? ⟨w.heap.size, 5, none⟩ = some (.int .i64 o) ∧ u.cell? ⟨w.heap.size, 6, none⟩ = some (.bool x) ∧ u.cell? ⟨w.heap.size, 7, none⟩ = some (.bool m) ∧ u.cell? ⟨w.heap.size, 8, none⟩ = some (.int .i64 f) ∧ Below w.heap.size w u)
      (first | exact ⟨c0, c1, c2, c3, c4, c5, c6, c7, c8, b3.drew⟩ | assumption | (apply keep9; assumption; assumption))
      (first | (go_at_call 16; refine (fixed_fx _ _ _ (by first | exact O5.out)).mono ?_; rintro e w' ⟨rfl, hb⟩))
    clear c0 c1 c2 c3 c4 c5 c6 c7 c8 b3 HB
    obtain ⟨c0, c1, c2, c3, c4, c5, c6, c7, c8, b3⟩ := (show _ ∧ _ ∧ _ ∧ _ ∧ _ ∧ _ ∧ _ ∧ _ ∧ _ ∧ Below w.heap.size w _ by assumption)
    have HB := Lib.hid b3
    obtain ⟨s2, hs2⟩ : ∃ s, s = s1 ++ (fx (e.size : Int) 2 ++ e) := ⟨_, rfl⟩
    rw [← hs2]
    have L2 : Hid (s2.data.toList = hdQ (hq t e n c v o x m f) ++ exQ (hq t e n c v o x m f)) := Lib.hid (by
      rw [hs2, app_list, app_list, fx_list, L1.out]; rw [show exQ (hq t e n c v o x m f) = le 2 e.data.toList.length ++ e.data.toList from if_pos (HFG.out.1.1 HK4.out)]
      have : e.size = e.data.toList.length := by rw [Array.length_toList]; rfl
      show _ ++ (le 2 ((e.size : Nat) : Int).toNat ++ e.data.toList) = _ ++ (le 2 e.data.toList.length ++ e.data.toList)
      rw [← this]; rfl)
    have g2 : s2.size ≤ 65547 := by rw [hs2, ByteArray.size_append, ByteArray.size_append, g1, z5]; omega
    clear hs2 g1 L1
    by_cases hk8 : y8 = 0
    · have hq8 : (y8 != 0) = false := by simpa using hk8
      have HK8 := Lib.hid hk8
      clear hk8
      by_cases hk16 : y16 = 0
      · have hq16 : (y16 != 0) = false := by simpa using hk16
        have HK16 := Lib.hid hk16
        clear hk16
        cases m
        · go_wp2_with (first | (go_at_call 18; refine (checksum_sum _ _ (by first | omega | (simp only [ByteArray.size_append, hz0]; omega))).mono ?_; rintro e w' ⟨rfl, hb4⟩) | (go_at_call 16; refine (fixed_fx _ _ _ (ok_sum _)).mono ?_; rintro e w' ⟨rfl, hb5⟩))
          go_ret2
          exact ⟨ret_str_int (plain_leaf (b00 L2.out (fun h => (HFG.out.2.1.2 h) HK8.out) (fun h => (HFG.out.2.2.2 h) HK16.out)) rfl) rfl, HB.out⟩
        · go_wp2_with (first | (go_at_call 18; refine (checksum_sum _ _ (by first | omega | (simp only [ByteArray.size_append, hz0]; omega))).mono ?_; rintro e w' ⟨rfl, hb4⟩) | (go_at_call 16; refine (fixed_fx _ _ _ (ok_sum _)).mono ?_; rintro e w' ⟨rfl, hb5⟩))
          go_ret2
          exact ⟨ret_str_int (sum_leaf (b00 L2.out (fun h => (HFG.out.2.1.2 h) HK8.out) (fun h => (HFG.out.2.2.2 h) HK16.out)) rfl) rfl, grows (grows HB.out hb4) hb5⟩
      · have hq16 : (y16 != 0) = true := by simpa using hk16
        have HK16 := Lib.hid hk16
        clear hk16
        cases m
        · go_wp2_with (first | (go_at_call 18; refine (checksum_sum _ _ (by first | omega | (simp only [ByteArray.size_append, hz0]; omega))).mono ?_; rintro e w' ⟨rfl, hb4⟩) | (go_at_call 16; refine (fixed_fx _ _ _ (ok_sum _)).mono ?_; rintro e w' ⟨rfl, hb5⟩))
          go_ret2
          exact ⟨ret_str_int (plain_leaf (b01 L2.out (fun h => (HFG.out.2.1.2 h) HK8.out) (HFG.out.2.2.1 HK16.out)) rfl) rfl, HB.out⟩
        · go_wp2_with (first | (go_at_call 18; refine (checksum_sum _ _ (by first | omega | (simp only [ByteArray.size_append, hz0]; omega))).mono ?_; rintro e w' ⟨rfl, hb4⟩) | (go_at_call 16; refine (fixed_fx _ _ _ (ok_sum _)).mono ?_; rintro e w' ⟨rfl, hb5⟩))
          go_ret2
          exact ⟨ret_str_int (sum_leaf (b01 L2.out (fun h => (HFG.out.2.1.2 h) HK8.out) (HFG.out.2.2.1 HK16.out)) rfl) rfl, grows (grows HB.out hb4) hb5⟩
    · have hq8 : (y8 != 0) = true := by simpa using hk8
      have HK8 := Lib.hid hk8
      clear hk8
      by_cases hk16 : y16 = 0
      · have hq16 : (y16 != 0) = false := by simpa using hk16
        have HK16 := Lib.hid hk16
        clear hk16
        cases m
        · go_wp2_with (first | (go_at_call 18; refine (checksum_sum _ _ (by first | omega | (simp only [ByteArray.size_append, hz0]; omega))).mono ?_; rintro e w' ⟨rfl, hb4⟩) | (go_at_call 16; refine (fixed_fx _ _ _ (ok_sum _)).mono ?_; rintro e w' ⟨rfl, hb5⟩))
          go_ret2
          exact ⟨ret_str_int (plain_leaf (b10 L2.out (HFG.out.2.1.1 HK8.out) (fun h => (HFG.out.2.2.2 h) HK16.out)) rfl) rfl, HB.out⟩
        · go_wp2_with (first | (go_at_call 18; refine (checksum_sum _ _ (by first | omega | (simp only [ByteArray.size_append, hz0]; omega))).mono ?_; rintro e w' ⟨rfl, hb4⟩) | (go_at_call 16; refine (fixed_fx _ _ _ (ok_sum _)).mono ?_; rintro e w' ⟨rfl, hb5⟩))
          go_ret2
          exact ⟨ret_str_int (sum_leaf (b10 L2.out (HFG.out.2.1.1 HK8.out) (fun h => (HFG.out.2.2.2 h) HK16.out)) rfl) rfl, grows (grows HB.out hb4) hb5⟩
      · have hq16 : (y16 != 0) = true := by simpa using hk16
        have HK16 := Lib.hid hk16
        clear hk16
        cases m
        · go_wp2_with (first | (go_at_call 18; refine (checksum_sum _ _ (by first | omega | (simp only [ByteArray.size_append, hz0]; omega))).mono ?_; rintro e w' ⟨rfl, hb4⟩) | (go_at_call 16; refine (fixed_fx _ _ _ (ok_sum _)).mono ?_; rintro e w' ⟨rfl, hb5⟩))
          go_ret2
          exact ⟨ret_str_int (plain_leaf (b11 L2.out (HFG.out.2.1.1 HK8.out) (HFG.out.2.2.1 HK16.out)) rfl) rfl, HB.out⟩
        · go_wp2_with (first | (go_at_call 18; refine (checksum_sum _ _ (by first | omega | (simp only [ByteArray.size_append, hz0]; omega))).mono ?_; rintro e w' ⟨rfl, hb4⟩) | (go_at_call 16; refine (fixed_fx _ _ _ (ok_sum _)).mono ?_; rintro e w' ⟨rfl, hb5⟩))
          go_ret2
          exact ⟨ret_str_int (sum_leaf (b11 L2.out (HFG.out.2.1.1 HK8.out) (HFG.out.2.2.1 HK16.out)) rfl) rfl, grows (grows HB.out hb4) hb5⟩
end Go.Proofs.Ytgilfjojimgpaaa.Qd
