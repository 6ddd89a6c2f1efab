/-
  only, Show: a set as it is shown.
  Conditions: as each theorem says.
-/
import Derived.Test.YtdbeohfaaonbjaaTh
import Derived.Test.YtdbeohfaaonbjaaTj
namespace Go.Proofs.Ytdbeohfaaonbjaa.Ti
open Go.RowKit Go.PlainAid Go.Proofs.Ytdbeohfaaonbjaa.Vm Go.Proofs.Ytdbeohfaaonbjaa.Vo Go.Proofs.Ytdbeohfaaonbjaa.Bw Go.Proofs.Ytdbeohfaaonbjaa.Ba Go.Proofs.Ytdbeohfaaonbjaa.Na Go.Proofs.Ytdbeohfaaonbjaa.Tm Go.Proofs.Ytdbeohfaaonbjaa.Ts Go.Proofs.Ytdbeohfaaonbjaa.Ta Go.Proofs.Ytdbeohfaaonbjaa.Tb Go.Proofs.Ytdbeohfaaonbjaa.Tc Go.Proofs.Ytdbeohfaaonbjaa.Td Go.Proofs.Ytdbeohfaaonbjaa.Te Go.Proofs.Ytdbeohfaaonbjaa.Tf Go.Proofs.Ytdbeohfaaonbjaa.Tj Go.Proofs.Ytdbeohfaaonbjaa.Tg Go.Proofs.Ytdbeohfaaonbjaa.Th

theorem bts_nl (a : List Nat) : nl ⟨(bts a).toArray⟩ = byt a := by
  show ((byt a).map UInt8.ofNat).map (·.toNat) = byt a
  rw [List.map_map]
  conv => rhs; rw [← List.map_id (byt a)]
  refine List.map_congr_left fun c hc => ?_
  have := (mem_byt.1 hc).1
  simp
  omega
theorem asc_byt (a : List Nat) : asc (byt a) := List.Pairwise.filter _ List.pairwise_lt_range
theorem bts_size (a : List Nat) : (⟨(bts a).toArray⟩ : ByteArray).size ≤ 256 := btTo_len a 256

/-- The byte of a set that has just one. -/
def onlyR (a : List Nat) : Value := match byt a with
  | [x] => .tuple #[.int .u8 (x : Int), .bool true]
  | _ => .tuple #[.int .u8 0, .bool false]

set_option maxHeartbeats 1000000 in
set_option maxRecDepth 100000 in
theorem only_any {a : List Nat} (ha : isSet a) (w : World) :
    Calls Try.prog 28 #[.agg (sv a)] w fun e w' => e = .returned (onlyR a) ∧ Below w.heap.size w w' := by
  obtain ⟨s, hs⟩ : ∃ s : ByteArray, s = ⟨(bts a).toArray⟩ := ⟨_, rfl⟩
  have hnl : nl s = byt a := by rw [hs, bts_nl]
  have HBy : Hid (∀ w, Calls Try.prog 18 #[.agg (sv a)] w fun e w' => e = .returned (.string s) ∧ Below w.heap.size w w') := Lib.hid (fun w => by rw [hs]; exact Bytes_any ha w)
  have HX : Hid (Blk (w.alloc (.cells (sv a) 25)) w.heap.size 25 (sv a)) := Lib.hid (Blk.fresh w _ _)
  have HW : Hid (Below w.heap.size w (w.alloc (.cells (sv a) 25))) := Lib.hid (below_alloc _ _)
  have H4 : Hid ((sv a).size = 4) := Lib.hid (sv4 ha)
  obtain ⟨R, hR⟩ : ∃ R, R = onlyR a := ⟨_, rfl⟩
  rw [← hR]
  by_cases h0 : byt a = []
  · have hn : nl s = [] := by rw [hnl, h0]
    have he : s.data.toList.isEmpty = true := by
      have : s.data.toList.length = 0 := by have := nl_len s; rw [hn] at this; simpa using this.symm
      rw [List.eq_nil_of_length_eq_zero this]; rfl
    have he' : s.toList.isEmpty = true := by rw [Lib.toList_data]; exact he
    have HR : Hid (R = .tuple #[.int .u8 0, .bool false]) := Lib.hid (by rw [hR]; unfold onlyR; rw [h0])
    clear hs hnl hR h0 hn
    go_enter Try.func28, Try.ntmps28
    go_wp2_with (first | refine wpList_load_row rfl 25 _ rfl w.heap.size rfl _ _ _ _ HX.out Try.underlying25 rfl (fit H4.out) ?_ | (go_at_call 18; refine (HBy.out _).mono ?_; rintro e w1 ⟨rfl, k1⟩; have K1 := Lib.hid k1; clear k1))
    go_quiet (fail)
    go_wp2
    go_ret2
    exact ⟨by rw [HR.out]; rfl, (HW.out.trans (K1.out.mono HW.out.size)).trans ((below_draws _ _).mono (by have := HW.out.size; have := K1.out.size; omega))⟩
  · obtain ⟨x, r, hxr⟩ : ∃ x r, byt a = x :: r := by
      cases hn : byt a with
      | nil => exact absurd hn h0
      | cons x r => exact ⟨x, r, rfl⟩
    have he : s.data.toList.isEmpty = false := by
      cases hss : s.data.toList with
      | nil => exact absurd (by rw [← hnl, nl, hss]; rfl) h0
      | cons a b => rfl
    have he' : s.toList.isEmpty = false := by rw [Lib.toList_data]; exact he
    have hsz : 1 ≤ s.size := by rw [← nl_len, hnl, hxr]; simp
    obtain ⟨q1, hq1⟩ : ∃ q, q = s.extract 0 1 := ⟨_, rfl⟩
    have hs1 : ∀ u, (Instr.slice 9 (.string s) none (some (.int .i64 1)) none).run Try.prog u = .ok (.string q1) u := fun u => by rw [hq1]; exact cut_low (S := s) (k := 1) hsz u
    have hx256 : x < 256 := (mem_byt.1 (by rw [hxr]; simp : x ∈ byt a)).1
    have hq1l : q1.data.toList = [UInt8.ofNat x] := by
      have h1 : (s.data.toList).take 1 = [UInt8.ofNat x] := by
        rw [hs]
        show (bts a).take 1 = _
        unfold bts
        rw [hxr]; rfl
      rw [hq1, ByteArray.data_extract, Array.toList_extract, List.extract_eq_take_drop]
      simpa using h1
    have HOf : Hid (∀ w, Calls Try.prog 8 #[.string q1] w fun e w' => e = .returned (.agg (sv (ofS [UInt8.ofNat x]))) ∧ Below w.heap.size w w') := Lib.hid (fun w => by
      have := Of_any q1 w (by rw [← nl_len, nl, hq1l]; simp)
      rw [hq1l] at this; exact this)
    have hb0 : bt s 0 = (x : Int) := (nl_get (s := s) (k := 0) (by rw [hnl, hxr]; rfl)).2.1
    obtain ⟨y0, y1, y2, y3, hy⟩ := four_of (ofS_set [UInt8.ofNat x])
    obtain ⟨x0, x1, x2, x3, hx⟩ := four_of ha
    have hab : a = ofS (bts a) := (ofS_byt ha).symm
    rw [hy] at HOf
    have HX2 : Hid (Blk (w.alloc (.cells (sv a) 25)) w.heap.size 25 (sv [x0, x1, x2, x3])) := Lib.hid (by rw [← hx]; exact HX.out)
    simp only [sv_four] at HOf
    have hgb := get_bt s
    have z0 : (0 : Int) < (s.size : Int) := by omega
    by_cases hr : r = []
    · have hay : ([x0, x1, x2, x3] : List Nat) = [y0, y1, y2, y3] := by
        rw [← hx, ← hy, hab]
        unfold bts
        rw [hxr, hr]; rfl
      injection hay with e0 hay
      injection hay with e1 hay
      injection hay with e2 hay
      injection hay with e3 hay
      subst e0; subst e1; subst e2; subst e3
      have heq := fun w => eq_same x0 x1 x2 x3 w
      have HR : Hid (R = .tuple #[.int .u8 (x : Int), .bool true]) := Lib.hid (by rw [hR]; unfold onlyR; rw [hxr, hr])
      clear hs hnl hR h0 hxr hq1 hq1l hy hab hr hsz hx
      go_enter Try.func28, Try.ntmps28
      go_wp2_with (first | refine wpList_load_row rfl 25 _ rfl w.heap.size rfl _ _ _ _ HX.out Try.underlying25 rfl (fit H4.out) ?_ | (go_at_call 18; refine (HBy.out _).mono ?_; rintro e w1 ⟨rfl, k1⟩; have K1 := Lib.hid k1; clear k1; obtain ⟨c0, c1, c2, c3⟩ := cells4 (HX2.out.below K1.out); have hd := HX2.out.below K1.out; have HD := Lib.hid (show Blk w1.drew w.heap.size 25 (sv [x0, x1, x2, x3]) from hd); clear hd))
      go_region_with (go_at_call 8; refine (HOf.out _).mono ?_; rintro e w2 ⟨rfl, k2⟩; have K2 := Lib.hid k2; clear k2; obtain ⟨d0, d1, d2, d3⟩ := cells4 (HD.out.below K2.out))
      all_goals go_wp2
      all_goals go_ret2
      all_goals exact ⟨by rw [HR.out]; rfl, (HW.out.trans (K1.out.mono HW.out.size)).trans ((show Below w1.heap.size w1 w2 from ⟨K2.out.os, K2.out.tape, K2.out.output, K2.out.size, K2.out.block⟩).mono (Nat.le_trans HW.out.size K1.out.size))⟩
    · have hne : ([x0, x1, x2, x3] : List Nat) ≠ [y0, y1, y2, y3] := by
        rw [← hx, ← hy]
        intro e
        obtain ⟨y, r', hyr⟩ : ∃ y r', r = y :: r' := by
          cases r with
          | nil => exact absurd rfl hr
          | cons y r' => exact ⟨y, r', rfl⟩
        have hxy : x < y := asc_get (asc_byt a) (i := 0) (j := 1) (by omega) (by rw [hxr]; rfl) (by rw [hxr, hyr]; rfl)
        have hym : y ∈ byt a := by rw [hxr, hyr]; simp
        have h1 := (mem_byt.1 hym).2
        have h2 := has_ofS [UInt8.ofNat x] (mem_byt.1 hym).1
        rw [← e, h1] at h2
        simp at h2
        omega
      have heq := fun w => eq_not hne w
      have HR : Hid (R = .tuple #[.int .u8 0, .bool false]) := Lib.hid (by
        rw [hR]; unfold onlyR; rw [hxr]
        cases r with
        | nil => exact absurd rfl hr
        | cons y r' => rfl)
      clear hs hnl hR h0 hxr hq1 hq1l hy hab hr hsz hx hne
      go_enter Try.func28, Try.ntmps28
      go_wp2_with (first | refine wpList_load_row rfl 25 _ rfl w.heap.size rfl _ _ _ _ HX.out Try.underlying25 rfl (fit H4.out) ?_ | (go_at_call 18; refine (HBy.out _).mono ?_; rintro e w1 ⟨rfl, k1⟩; have K1 := Lib.hid k1; clear k1; obtain ⟨c0, c1, c2, c3⟩ := cells4 (HX2.out.below K1.out); have hd := HX2.out.below K1.out; have HD := Lib.hid (show Blk w1.drew w.heap.size 25 (sv [x0, x1, x2, x3]) from hd); clear hd))
      go_region_with (go_at_call 8; refine (HOf.out _).mono ?_; rintro e w2 ⟨rfl, k2⟩; have K2 := Lib.hid k2; clear k2; obtain ⟨d0, d1, d2, d3⟩ := cells4 (HD.out.below K2.out))
      all_goals go_wp2
      all_goals go_ret2
      all_goals exact ⟨by rw [HR.out]; rfl, (HW.out.trans (K1.out.mono HW.out.size)).trans ((show Below w1.heap.size w1 w2 from ⟨K2.out.os, K2.out.tape, K2.out.output, K2.out.size, K2.out.block⟩).mono (Nat.le_trans HW.out.size K1.out.size))⟩
end Go.Proofs.Ytdbeohfaaonbjaa.Ti
