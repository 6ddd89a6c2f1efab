/-
  only, Show: a set as it is shown.
  Show: a set as it is shown.
  A set that is shown is read as that set (layer 15), in lists.
  A right tree that is shown is read as that tree (layer 15), in lists.
  What is read is right (layer 15), in lists: a tree that is read is a right one; the depth is enough; errors have a number.
  Nodes in preorder (layer 15): where a tree ends; a list is one right tree just if it is whole and each node has what its kind asks; which trees match the empty text.
  Nodes in memory.
  The reference's Masked, Byte, Show.
  The reference's Digits.
  The reference's Show.
  Conditions: as each theorem says.
-/
import Derived.Test.YtabcehifdomolaaDoorQah
import Derived.Test.YtabcehifdomolaaDoorQai
import Derived.Test.YtabcehifdomolaaDoorQaf
namespace Go.Proofs.YtabcehifdomolaaDoor.Ti
open Go.RowKit Go.PlainAid Go.Proofs.YtabcehifdomolaaDoor.Vm Go.Proofs.YtabcehifdomolaaDoor.Vo Go.Proofs.YtabcehifdomolaaDoor.Bw Go.Proofs.YtabcehifdomolaaDoor.Ba Go.Proofs.YtabcehifdomolaaDoor.Na Go.Proofs.YtabcehifdomolaaDoor.Tm Go.Proofs.YtabcehifdomolaaDoor.Ts Go.Proofs.YtabcehifdomolaaDoor.Ta Go.Proofs.YtabcehifdomolaaDoor.Tb Go.Proofs.YtabcehifdomolaaDoor.Tc Go.Proofs.YtabcehifdomolaaDoor.Td Go.Proofs.YtabcehifdomolaaDoor.Te Go.Proofs.YtabcehifdomolaaDoor.Tf Go.Proofs.YtabcehifdomolaaDoor.Tj Go.Proofs.YtabcehifdomolaaDoor.Tg Go.Proofs.YtabcehifdomolaaDoor.Th

theorem bts_nl (a : List Nat) : nl ⟨(bts a).toArray⟩ = byt a := by
  show ((byt a).map UInt8.ofNat).map (·.toNat) = byt a
  rw [List.map_map]
  conv => rhs; rw [← List.map_id (byt a)]
  refine List.map_congr_left fun c hc => ?_
  have := (mem_byt.1 hc).1
  simp
  omega
theorem asc_byt (a : List Nat) : asc (byt a) := List.Pairwise.filter _ List.pairwise_lt_range
theorem bts_size (a : List Nat) : (⟨(bts a).toArray⟩ : ByteArray).size ≤ 256 := btTo_len a 256

/-- The byte of a set that has just one. -/
def onlyR (a : List Nat) : Value := match byt a with
  | [x] => .tuple #[.int .u8 (x : Int), .bool true]
  | _ => .tuple #[.int .u8 0, .bool false]

set_option maxHeartbeats 1000000 in
set_option maxRecDepth 100000 in
theorem only_any {a : List Nat} (ha : isSet a) (w : World) :
    Calls Tryd.prog 38 #[.agg (sv a)] w fun e w' => e = .returned (onlyR a) ∧ Below w.heap.size w w' := by
  obtain ⟨s, hs⟩ : ∃ s : ByteArray, s = ⟨(bts a).toArray⟩ := ⟨_, rfl⟩
  have hnl : nl s = byt a := by rw [hs, bts_nl]
  have HBy : Hid (∀ w, Calls Tryd.prog 43 #[.agg (sv a)] w fun e w' => e = .returned (.string s) ∧ Below w.heap.size w w') := Lib.hid (fun w => by rw [hs]; exact Bytes_any ha w)
  have HX : Hid (Blk (w.alloc (.cells (sv a) 36)) w.heap.size 36 (sv a)) := Lib.hid (Blk.fresh w _ _)
  have HW : Hid (Below w.heap.size w (w.alloc (.cells (sv a) 36))) := Lib.hid (below_alloc _ _)
  have H4 : Hid ((sv a).size = 4) := Lib.hid (sv4 ha)
  obtain ⟨R, hR⟩ : ∃ R, R = onlyR a := ⟨_, rfl⟩
  rw [← hR]
  by_cases h0 : byt a = []
  · have hn : nl s = [] := by rw [hnl, h0]
    have he : s.data.toList.isEmpty = true := by
      have : s.data.toList.length = 0 := by have := nl_len s; rw [hn] at this; simpa using this.symm
      rw [List.eq_nil_of_length_eq_zero this]; rfl
    have he' : s.toList.isEmpty = true := by rw [Lib.toList_data]; exact he
    have HR : Hid (R = .tuple #[.int .u8 0, .bool false]) := Lib.hid (by rw [hR]; unfold onlyR; rw [h0])
    clear hs hnl hR h0 hn
    go_enter Tryd.func38, Tryd.ntmps38
    go_wp2_with (first | refine wpList_load_row rfl 36 _ rfl w.heap.size rfl _ _ _ _ HX.out Tryd.underlying36 rfl (fit H4.out) ?_ | (go_at_call 43; refine (HBy.out _).mono ?_; rintro e w1 ⟨rfl, k1⟩; have K1 := Lib.hid k1; clear k1))
    go_quiet (fail)
    go_wp2
    go_ret2
    exact ⟨by rw [HR.out]; rfl, (HW.out.trans (K1.out.mono HW.out.size)).trans ((below_draws _ _).mono (by have := HW.out.size; have := K1.out.size; omega))⟩
  · obtain ⟨x, r, hxr⟩ : ∃ x r, byt a = x :: r := by
      cases hn : byt a with
      | nil => exact absurd hn h0
      | cons x r => exact ⟨x, r, rfl⟩
    have he : s.data.toList.isEmpty = false := by
      cases hss : s.data.toList with
      | nil => exact absurd (by rw [← hnl, nl, hss]; rfl) h0
      | cons a b => rfl
    have he' : s.toList.isEmpty = false := by rw [Lib.toList_data]; exact he
    have hsz : 1 ≤ s.size := by rw [← nl_len, hnl, hxr]; simp
    obtain ⟨q1, hq1⟩ : ∃ q, q = s.extract 0 1 := ⟨_, rfl⟩
    have hs1 : ∀ u, (Instr.slice 9 (.string s) none (some (.int .i64 1)) none).run Tryd.prog u = .ok (.string q1) u := fun u => by rw [hq1]; exact cut_low (S := s) (k := 1) hsz u
    have hx256 : x < 256 := (mem_byt.1 (by rw [hxr]; simp : x ∈ byt a)).1
    have hq1l : q1.data.toList = [UInt8.ofNat x] := by
      have h1 : (s.data.toList).take 1 = [UInt8.ofNat x] := by
        rw [hs]
        show (bts a).take 1 = _
        unfold bts
        rw [hxr]; rfl
      rw [hq1, ByteArray.data_extract, Array.toList_extract, List.extract_eq_take_drop]
      simpa using h1
    have HOf : Hid (∀ w, Calls Tryd.prog 54 #[.string q1] w fun e w' => e = .returned (.agg (sv (ofS [UInt8.ofNat x]))) ∧ Below w.heap.size w w') := Lib.hid (fun w => by
      have := Of_any q1 w (by rw [← nl_len, nl, hq1l]; simp)
      rw [hq1l] at this; exact this)
    have hb0 : bt s 0 = (x : Int) := (nl_get (s := s) (k := 0) (by rw [hnl, hxr]; rfl)).2.1
    obtain ⟨y0, y1, y2, y3, hy⟩ := four_of (ofS_set [UInt8.ofNat x])
    obtain ⟨x0, x1, x2, x3, hx⟩ := four_of ha
    have hab : a = ofS (bts a) := (ofS_byt ha).symm
    rw [hy] at HOf
    have HX2 : Hid (Blk (w.alloc (.cells (sv a) 36)) w.heap.size 36 (sv [x0, x1, x2, x3])) := Lib.hid (by rw [← hx]; exact HX.out)
    simp only [sv_four] at HOf
    have hgb := get_bt s
    have z0 : (0 : Int) < (s.size : Int) := by omega
    by_cases hr : r = []
    · have hay : ([x0, x1, x2, x3] : List Nat) = [y0, y1, y2, y3] := by
        rw [← hx, ← hy, hab]
        unfold bts
        rw [hxr, hr]; rfl
      injection hay with e0 hay
      injection hay with e1 hay
      injection hay with e2 hay
      injection hay with e3 hay
      subst e0; subst e1; subst e2; subst e3
      have heq := fun w => eq_same x0 x1 x2 x3 w
      have HR : Hid (R = .tuple #[.int .u8 (x : Int), .bool true]) := Lib.hid (by rw [hR]; unfold onlyR; rw [hxr, hr])
      clear hs hnl hR h0 hxr hq1 hq1l hy hab hr hsz hx
      go_enter Tryd.func38, Tryd.ntmps38
      go_wp2_with (first | refine wpList_load_row rfl 36 _ rfl w.heap.size rfl _ _ _ _ HX.out Tryd.underlying36 rfl (fit H4.out) ?_ | (go_at_call 43; refine (HBy.out _).mono ?_; rintro e w1 ⟨rfl, k1⟩; have K1 := Lib.hid k1; clear k1; obtain ⟨c0, c1, c2, c3⟩ := cells4 (HX2.out.below K1.out); have hd := HX2.out.below K1.out; have HD := Lib.hid (show Blk w1.drew w.heap.size 36 (sv [x0, x1, x2, x3]) from hd); clear hd))
      go_region_with (go_at_call 54; refine (HOf.out _).mono ?_; rintro e w2 ⟨rfl, k2⟩; have K2 := Lib.hid k2; clear k2; obtain ⟨d0, d1, d2, d3⟩ := cells4 (HD.out.below K2.out))
      all_goals go_wp2
      all_goals go_ret2
      all_goals exact ⟨by rw [HR.out]; rfl, (HW.out.trans (K1.out.mono HW.out.size)).trans ((show Below w1.heap.size w1 w2 from ⟨K2.out.os, K2.out.tape, K2.out.output, K2.out.size, K2.out.block⟩).mono (Nat.le_trans HW.out.size K1.out.size))⟩
    · have hne : ([x0, x1, x2, x3] : List Nat) ≠ [y0, y1, y2, y3] := by
        rw [← hx, ← hy]
        intro e
        obtain ⟨y, r', hyr⟩ : ∃ y r', r = y :: r' := by
          cases r with
          | nil => exact absurd rfl hr
          | cons y r' => exact ⟨y, r', rfl⟩
        have hxy : x < y := asc_get (asc_byt a) (i := 0) (j := 1) (by omega) (by rw [hxr]; rfl) (by rw [hxr, hyr]; rfl)
        have hym : y ∈ byt a := by rw [hxr, hyr]; simp
        have h1 := (mem_byt.1 hym).2
        have h2 := has_ofS [UInt8.ofNat x] (mem_byt.1 hym).1
        rw [← e, h1] at h2
        simp at h2
        omega
      have heq := fun w => eq_not hne w
      have HR : Hid (R = .tuple #[.int .u8 0, .bool false]) := Lib.hid (by
        rw [hR]; unfold onlyR; rw [hxr]
        cases r with
        | nil => exact absurd rfl hr
        | cons y r' => rfl)
      clear hs hnl hR h0 hxr hq1 hq1l hy hab hr hsz hx hne
      go_enter Tryd.func38, Tryd.ntmps38
      go_wp2_with (first | refine wpList_load_row rfl 36 _ rfl w.heap.size rfl _ _ _ _ HX.out Tryd.underlying36 rfl (fit H4.out) ?_ | (go_at_call 43; refine (HBy.out _).mono ?_; rintro e w1 ⟨rfl, k1⟩; have K1 := Lib.hid k1; clear k1; obtain ⟨c0, c1, c2, c3⟩ := cells4 (HX2.out.below K1.out); have hd := HX2.out.below K1.out; have HD := Lib.hid (show Blk w1.drew w.heap.size 36 (sv [x0, x1, x2, x3]) from hd); clear hd))
      go_region_with (go_at_call 54; refine (HOf.out _).mono ?_; rintro e w2 ⟨rfl, k2⟩; have K2 := Lib.hid k2; clear k2; obtain ⟨d0, d1, d2, d3⟩ := cells4 (HD.out.below K2.out))
      all_goals go_wp2
      all_goals go_ret2
      all_goals exact ⟨by rw [HR.out]; rfl, (HW.out.trans (K1.out.mono HW.out.size)).trans ((show Below w1.heap.size w1 w2 from ⟨K2.out.os, K2.out.tape, K2.out.output, K2.out.size, K2.out.block⟩).mono (Nat.le_trans HW.out.size K1.out.size))⟩
end Go.Proofs.YtabcehifdomolaaDoor.Ti
namespace Go.Proofs.YtabcehifdomolaaDoor.Tn
open Go.RowKit Go.PlainAid Go.Proofs.YtabcehifdomolaaDoor.Vm Go.Proofs.YtabcehifdomolaaDoor.Vo Go.Proofs.YtabcehifdomolaaDoor.Bw Go.Proofs.YtabcehifdomolaaDoor.Ba Go.Proofs.YtabcehifdomolaaDoor.Na Go.Proofs.YtabcehifdomolaaDoor.Tm Go.Proofs.YtabcehifdomolaaDoor.Ts Go.Proofs.YtabcehifdomolaaDoor.Ta Go.Proofs.YtabcehifdomolaaDoor.Tb Go.Proofs.YtabcehifdomolaaDoor.Tc Go.Proofs.YtabcehifdomolaaDoor.Td Go.Proofs.YtabcehifdomolaaDoor.Te Go.Proofs.YtabcehifdomolaaDoor.Tf Go.Proofs.YtabcehifdomolaaDoor.Tj Go.Proofs.YtabcehifdomolaaDoor.Tg Go.Proofs.YtabcehifdomolaaDoor.Th Go.Proofs.YtabcehifdomolaaDoor.Ti

theorem shw_one {a : List Nat} {x : Nat} (h : byt a = [x]) : shwQ a (notL a) = nota x := by unfold shwQ; rw [h]
theorem shw_big {a : List Nat} (h : (byt a).length ≠ 1) (h2 : 128 < (byt a).length) : shwQ a (notL a) = 91 :: 94 :: (lstQ (byt (notL a)) ++ [93]) := by
  unfold shwQ
  split
  · next e => rw [e] at h; exact absurd rfl h
  · rw [if_pos h2]
theorem shw_low {a : List Nat} (h : (byt a).length ≠ 1) (h2 : ¬ 128 < (byt a).length) : shwQ a (notL a) = 91 :: (lstQ (byt a) ++ [93]) := by
  unfold shwQ
  split
  · next e => rw [e] at h; exact absurd rfl h
  · rw [if_neg h2]
theorem only_one {a : List Nat} {x : Nat} (h : byt a = [x]) : onlyR a = .tuple #[.int .u8 (x : Int), .bool true] := by unfold onlyR; rw [h]
theorem only_not {a : List Nat} (h : (byt a).length ≠ 1) : onlyR a = .tuple #[.int .u8 0, .bool false] := by
  unfold onlyR
  split
  · next e => rw [e] at h; exact absurd rfl h
  · rfl
theorem below_size (w : World) (z : Array Value) : (w.alloc (.cells z 36)).heap.size = w.heap.size + 1 := size_alloc _ _

theorem ob_lit1 {w : World} {base : Nat} (hb : base ≤ w.heap.size) : ob base (w.alloc (.cells #[Value.int .u8 91] 5)) (.slice (some ⟨w.heap.size, 0, none⟩) 1 1) [91] := ob_lit (c := [91]) (by decide) hb
/-- A row of bytes stays where a set is stored. -/
theorem ob_row {w : World} {base g : Nat} {v : Value} {l : List UInt8} {z z' : Array Value} (h : ob base w v l) (hb : Blk w g 36 z) : ob base (w.setRow g z') v l :=
  own_only (S := fun i => i = g) h ⟨rfl, rfl, rfl, by rw [setRow_size]; exact Nat.le_refl _, fun k _ hk => setRow_other w g k z' hk⟩ (fun i hi => own_apart h hb (by decide) i hi)
theorem size_row {w : World} {g : Nat} {z : Array Value} : (w.setRow g z).heap.size = w.heap.size := setRow_size _ _ _

set_option maxHeartbeats 2000000 in
set_option maxRecDepth 100000 in
theorem Show_any {a : List Nat} (ha : isSet a) (w : World) :
    Calls Tryd.prog 28 #[.agg (sv a)] w fun e w' => e = .returned (.string ⟨(shwQ a (notL a)).toArray⟩) ∧ Below w.heap.size w w' := by
  have HX : Hid (Blk (w.alloc (.cells (sv a) 36)) w.heap.size 36 (sv a)) := Lib.hid (Blk.fresh w _ _)
  have HW : Hid (Below w.heap.size w (w.alloc (.cells (sv a) 36))) := Lib.hid (below_alloc _ _)
  have HS : Hid ((w.alloc (.cells (sv a) 36)).heap.size = w.heap.size + 1) := Lib.hid (size_alloc _ _)
  have H4 : Hid ((sv a).size = 4) := Lib.hid (sv4 ha)
  obtain ⟨R, hR⟩ : ∃ R, R = shwQ a (notL a) := ⟨_, rfl⟩
  rw [← hR]
  have HOn := Lib.hid (fun w => only_any ha w)
  have HCt := Lib.hid (fun w => Count_any ha w)
  by_cases h1 : (byt a).length = 1
  · obtain ⟨x, hx⟩ : ∃ x, byt a = [x] := List.length_eq_one_iff.1 h1
    have hx256 : x < 256 := (mem_byt.1 (by rw [hx]; simp : x ∈ byt a)).1
    have HR : Hid (R = nota x) := Lib.hid (by rw [hR, shw_one hx])
    rw [only_one hx] at HOn
    clear hR h1 hx HCt
    go_enter Tryd.func28, Tryd.ntmps28
    go_wp2_with (first | refine wpList_load_row rfl 36 _ rfl w.heap.size rfl _ _ _ _ HX.out Tryd.underlying36 rfl (fit H4.out) ?_ | (go_at_call 38; refine (HOn.out _).mono ?_; rintro e w1 ⟨rfl, k1⟩; have K1 := Lib.hid k1; clear k1) | (go_at_call 39; refine (appendByte_any (base := w.heap.size + 1) (W := w1) (Below.refl _ _) (by rw [← HS.out]; exact K1.out.size) (ob_nil _ _) (by simp) hx256).mono ?_; rintro e w2 ⟨v2, rfl, h2, k2⟩; have H2 := Lib.hid h2; have K2 := Lib.hid k2; clear h2 k2; have hcv := ob_string H2.out))
    go_ret
    exact ⟨ret_str (by rw [HR.out]), (HW.out.trans (K1.out.mono HW.out.size)).trans (K2.out.mono (by omega))⟩
  · rw [only_not h1] at HOn
    have HBy := Lib.hid (fun w => Bytes_any ha w)
    have HBn := Lib.hid (fun w => Bytes_any (notL_set ha) w)
    have HNo := Lib.hid (fun w => Not_any ha w)
    obtain ⟨N, hN⟩ : ∃ N, N = (byt a).length := ⟨_, rfl⟩
    rw [← hN] at HCt h1
    obtain ⟨sa, hsa⟩ : ∃ s : ByteArray, s = ⟨(bts a).toArray⟩ := ⟨_, rfl⟩
    obtain ⟨sn, hsn⟩ : ∃ s : ByteArray, s = ⟨(bts (notL a)).toArray⟩ := ⟨_, rfl⟩
    have za : sa.size ≤ 256 := by rw [hsa]; exact bts_size a
    have zn : sn.size ≤ 256 := by rw [hsn]; exact bts_size _
    have ca : asc (nl sa) := by rw [hsa, bts_nl]; exact asc_byt a
    have cn : asc (nl sn) := by rw [hsn, bts_nl]; exact asc_byt _
    rw [← hsa] at HBy
    rw [← hsn] at HBn
    have H1L : Hid ([(91 : UInt8)].length ≤ 1000) := Lib.hid (by decide)
    have hone : (#[Value.int .u8 91] : Array Value) = (Bs [91]).toArray := rfl
    have HOne := Lib.hid hone
    clear hone
    by_cases h2 : 128 < N
    · have HR : Hid (R = ([91] ++ [94] ++ lstQ (nl sn)) ++ [93]) := Lib.hid (by
        rw [hR, shw_big (by rw [← hN]; exact h1) (by rw [← hN]; exact h2), hsn, bts_nl]; simp)
      have HLL : Hid (([91] ++ [94] ++ lstQ (nl sn)).length + [(93 : UInt8)].length ≤ 1000000000) := Lib.hid (by
        have := lstQ_le (nl sn)
        rw [nl_len] at this
        simp; omega)
      have HAL := Lib.hid (fun (base : Nat) (W w : World) (HB : Below base W w) (hb : base ≤ W.heap.size) (v : Value) (h : ob base w v ([91] ++ [94])) => appendList_any HB hb h (by decide) zn cn)
      obtain ⟨zN, hzN⟩ : ∃ z, z = sv (notL a) := ⟨_, rfl⟩
      have H4N : Hid (zN.size = 4) := Lib.hid (by rw [hzN, sv4 (notL_set ha)])
      have H1N : Hid (zN.all (·.oneCell') = true) := Lib.hid (by rw [hzN]; exact sv_one _)
      rw [← hzN] at HNo HBn
      clear hR hN hsa hsn hzN HBy h1 za zn ca cn
      generalize sv a = z at *
      go_enter Tryd.func28, Tryd.ntmps28
      go_wp2_with (first | refine wpList_load_row rfl 36 _ rfl w.heap.size rfl _ _ _ _ HX.out Tryd.underlying36 rfl (fit H4.out) ?_ | (go_at_call 38; refine (HOn.out _).mono ?_; rintro e w1 ⟨rfl, k1⟩; have K1 := Lib.hid k1; clear k1; have X1 := Lib.hid ((HX.out.below K1.out).below (below_alloc _ (.cells #[Value.int .u8 91] 5))); have O1 := Lib.hid (ob_lit1 (w := w1) (base := w.heap.size + 1) (by rw [← HS.out]; exact K1.out.size)); have B1 := Lib.hid (grows K1.out (below_alloc w1 (.cells #[Value.int .u8 91] 5)))) | refine wpList_load_row rfl 36 _ rfl w.heap.size rfl _ _ _ _ X1.out Tryd.underlying36 rfl (fit H4.out) ?_ | (go_at_call 40; refine (HCt.out _).mono ?_; rintro e w2 ⟨rfl, k2⟩; have K2 := Lib.hid k2; clear k2; have X2 := Lib.hid (X1.out.below K2.out); have O2 := Lib.hid (O1.out.below K2.out); have b2 := grows B1.out K2.out; rw [HS.out] at b2; have B2 := Lib.hid b2; clear b2) | (at_builtin; refine wpList_ob rfl _ _ rfl B2.out (by rw [HS.out]; exact Nat.le_refl _) (by rfl) O2.out [94] (by rfl) rfl (by rfl) (by decide) ?_; intro v3 w3 h3 k3; have H3 := Lib.hid h3; have K3 := Lib.hid k3; clear h3 k3; have X3 := Lib.hid (Blk_low HX.out K3.out (by omega))) | refine wpList_load_row rfl 36 _ rfl w.heap.size rfl _ _ _ _ X3.out Tryd.underlying36 rfl (fit H4.out) ?_ | (go_at_call 41; refine (HNo.out _).mono ?_; rintro e w4 ⟨rfl, k4⟩; have K4 := Lib.hid k4; clear k4; have X4 := Lib.hid (X3.out.below K4.out); have O4 := Lib.hid (ob_row (z' := zN) (H3.out.below K4.out) X4.out); have G4 := Lib.hid (show w.heap.size + 1 ≤ (w4.setRow w.heap.size zN).heap.size by rw [size_row, ← HS.out]; exact Nat.le_trans K3.out.size K4.out.size)) | refine wpList_store_row rfl 36 _ _ rfl w.heap.size zN rfl rfl _ _ X4.out (fit H4N.out) (Eq.trans H4.out (Eq.symm H4N.out)) H1N.out ?_ | refine wpList_load_row rfl 36 _ rfl w.heap.size rfl _ _ _ _ (Blk_row X4.out) Tryd.underlying36 rfl (fit H4N.out) ?_ | (go_at_call 43; refine (HBn.out _).mono ?_; rintro e w5 ⟨rfl, k5⟩; have K5 := Lib.hid k5; clear k5; have O5 := Lib.hid (O4.out.below K5.out); have B5 := Lib.hid (K5.out.mono G4.out)) | (go_at_call 42; refine (HAL.out _ _ _ B5.out G4.out _ O5.out).mono ?_; rintro e w6 ⟨v6, rfl, h6, k6⟩; have H6 := Lib.hid h6; have K6 := Lib.hid k6; clear h6 k6) | (at_builtin; refine wpList_ob rfl _ _ rfl K6.out G4.out (by rfl) H6.out [93] (by rfl) rfl (by rfl) HLL.out ?_; intro v7 w7 h7 k7; have H7 := Lib.hid h7; have K7 := Lib.hid k7; clear h7 k7; have hcv := ob_string H7.out))
      go_ret
      exact ⟨ret_str (by rw [HR.out]; simp), (Below_setRow ((HW.out.trans (K3.out.mono (by omega))).trans (K4.out.mono (Nat.le_trans HW.out.size K3.out.size))) (Nat.le_refl _) zN).trans (K7.out.mono (by omega))⟩
    · have HR : Hid (R = ([91] ++ lstQ (nl sa)) ++ [93]) := Lib.hid (by
        rw [hR, shw_low (by rw [← hN]; exact h1) (by rw [← hN]; exact h2), hsa, bts_nl]; simp)
      have HLL : Hid (([91] ++ lstQ (nl sa)).length + [(93 : UInt8)].length ≤ 1000000000) := Lib.hid (by
        have := lstQ_le (nl sa)
        rw [nl_len] at this
        simp; omega)
      have HAL := Lib.hid (fun (base : Nat) (W w : World) (HB : Below base W w) (hb : base ≤ W.heap.size) (v : Value) (h : ob base w v [91]) => appendList_any HB hb h (by decide) za ca)
      clear hR hN hsa hsn HBn HNo h1 za zn ca cn
      generalize sv a = z at *
      go_enter Tryd.func28, Tryd.ntmps28
      go_wp2_with (first | refine wpList_load_row rfl 36 _ rfl w.heap.size rfl _ _ _ _ HX.out Tryd.underlying36 rfl (fit H4.out) ?_ | (go_at_call 38; refine (HOn.out _).mono ?_; rintro e w1 ⟨rfl, k1⟩; have K1 := Lib.hid k1; clear k1; have X1 := Lib.hid ((HX.out.below K1.out).below (below_alloc _ (.cells #[Value.int .u8 91] 5))); have O1 := Lib.hid (ob_lit1 (w := w1) (base := w.heap.size + 1) (by rw [← HS.out]; exact K1.out.size)); have B1 := Lib.hid (grows K1.out (below_alloc w1 (.cells #[Value.int .u8 91] 5)))) | refine wpList_load_row rfl 36 _ rfl w.heap.size rfl _ _ _ _ X1.out Tryd.underlying36 rfl (fit H4.out) ?_ | (go_at_call 40; refine (HCt.out _).mono ?_; rintro e w2 ⟨rfl, k2⟩; have K2 := Lib.hid k2; clear k2; have X2 := Lib.hid (X1.out.below K2.out); have O2 := Lib.hid (O1.out.below K2.out); have b2 := grows B1.out K2.out; rw [HS.out] at b2; have B2 := Lib.hid b2; clear b2) | refine wpList_load_row rfl 36 _ rfl w.heap.size rfl _ _ _ _ X2.out Tryd.underlying36 rfl (fit H4.out) ?_ | (go_at_call 43; refine (HBy.out _).mono ?_; rintro e w5 ⟨rfl, k5⟩; have K5 := Lib.hid k5; clear k5; have O5 := Lib.hid (O2.out.below K5.out); have b5 := B2.out.trans (K5.out.mono (by rw [← HS.out]; exact B2.out.size)); have B5 := Lib.hid b5; clear b5; have G4 := Lib.hid (show w.heap.size + 1 ≤ (w.alloc (.cells z 36)).heap.size by rw [HS.out]; exact Nat.le_refl _)) | (go_at_call 42; refine (HAL.out _ _ _ B5.out G4.out _ O5.out).mono ?_; rintro e w6 ⟨v6, rfl, h6, k6⟩; have H6 := Lib.hid h6; have K6 := Lib.hid k6; clear h6 k6) | (at_builtin; refine wpList_ob rfl _ _ rfl K6.out G4.out (by rfl) H6.out [93] (by rfl) rfl (by rfl) HLL.out ?_; intro v7 w7 h7 k7; have H7 := Lib.hid h7; have K7 := Lib.hid k7; clear h7 k7; have hcv := ob_string H7.out))
      go_ret
      exact ⟨ret_str (by rw [HR.out]; simp), HW.out.trans (K7.out.mono (by omega))⟩
end Go.Proofs.YtabcehifdomolaaDoor.Tn
namespace Go.Proofs.YtabcehifdomolaaDoor.Rs
open Go.Proofs.YtabcehifdomolaaDoor.Tm Go.Proofs.YtabcehifdomolaaDoor.Ts Go.Proofs.YtabcehifdomolaaDoor.Ta Go.Proofs.YtabcehifdomolaaDoor.Tb Go.Proofs.YtabcehifdomolaaDoor.Td Go.Proofs.YtabcehifdomolaaDoor.Tf Go.Proofs.YtabcehifdomolaaDoor.Th Go.Proofs.YtabcehifdomolaaDoor.Ti Go.Proofs.YtabcehifdomolaaDoor.Tn Go.Proofs.YtabcehifdomolaaDoor.Rm

/-- Bytes as numbers. -/
def nb (l : List UInt8) : List Nat := l.map (·.toNat)
theorem nb_append (a b : List UInt8) : nb (a ++ b) = nb a ++ nb b := by simp [nb]
theorem nb_cons (a : UInt8) (b : List UInt8) : nb (a :: b) = a.toNat :: nb b := rfl
theorem hex_hexd : ∀ k < 16, hexP (hexd k).toNat = some k := by decide
theorem mask_not : ∀ c ∈ maskL, c ≠ 110 ∧ c ≠ 116 ∧ c ≠ 115 ∧ c ≠ 100 ∧ c ≠ 119 ∧ c ≠ 120 := by decide
theorem spc_mask : ∀ c, spcQ c → c ∈ maskL := by
  intro c h
  unfold spcQ at h
  simp only [List.mem_cons, List.not_mem_nil, or_false] at h
  rcases h with h | h | h | h | h | h | h | h | h | h | h | h <;> subst h <;> decide
/-- A byte's notation: an escape, or itself. -/
theorem nota_cases {x : Nat} (hx : x < 256) : (∃ m, nb (nota x) = 92 :: m ∧ ∀ r, escP (m ++ r) = .ok (one x, some x) r) ∨ (nb (nota x) = [x] ∧ x ∉ maskL) := by
  have hb : (UInt8.ofNat x).toNat = x := by simp; omega
  unfold nota
  by_cases h10 : x = 10
  · subst h10; exact .inl ⟨[110], by decide, fun r => rfl⟩
  rw [if_neg h10]
  by_cases h9 : x = 9
  · subst h9; exact .inl ⟨[116], by decide, fun r => rfl⟩
  rw [if_neg h9]
  by_cases h32 : x = 32
  · subst h32; exact .inl ⟨[115], by decide, fun r => rfl⟩
  rw [if_neg h32]
  by_cases hm : x ∈ maskL
  · rw [if_pos hm]
    refine .inl ⟨[x], by rw [nb_cons, nb_cons, hb]; rfl, fun r => ?_⟩
    obtain ⟨m1, m2, m3, m4, m5, m6⟩ := mask_not x hm
    show escP (x :: r) = _
    unfold escP
    simp only [if_neg m1, if_neg m2, if_neg m3, if_neg m4, if_neg m5, if_neg m6, if_pos hm]
  rw [if_neg hm]
  by_cases hr : 32 < x ∧ x < 127
  · rw [if_pos hr]
    exact .inr ⟨by rw [nb_cons, hb]; rfl, hm⟩
  rw [if_neg hr]
  refine .inl ⟨[120, (hexd (x / 16)).toNat, (hexd (x % 16)).toNat], rfl, fun r => ?_⟩
  show escP (120 :: (hexd (x / 16)).toNat :: (hexd (x % 16)).toNat :: r) = _
  unfold escP
  simp only [show ¬ (120 = 110) by decide, show ¬ (120 = 116) by decide, show ¬ (120 = 115) by decide, show ¬ (120 = 100) by decide, show ¬ (120 = 119) by decide, if_false, if_true]
  rw [hex_hexd _ (by omega), hex_hexd _ (by omega)]
  show Out.ok (one (16 * (x / 16) + x % 16), some (16 * (x / 16) + x % 16)) r = _
  rw [show 16 * (x / 16) + x % 16 = x by omega]
theorem chr_nota {x : Nat} (hx : x < 256) (r : List Nat) : chrP (nb (nota x) ++ r) = .ok (one x, some x) r := by
  rcases nota_cases hx with ⟨m, e, h⟩ | ⟨e, h⟩
  · rw [e]
    show chrP (92 :: (m ++ r)) = _
    rw [chrP, if_pos rfl, h]
  · rw [e]
    show chrP (x :: r) = _
    have n1 : x ≠ 92 := fun e => h (by rw [e]; decide)
    have n2 : x ≠ 45 := fun e => h (by rw [e]; decide)
    rw [chrP, if_neg n1, if_neg n2]
/-- .. its first byte. -/
theorem nota_head {x : Nat} (hx : x < 256) : ∃ c m, nb (nota x) = c :: m ∧ c ≠ 93 ∧ c ≠ 45 ∧ c ≠ 94 ∧ c ≠ 40 ∧ c ≠ 91 ∧ c ≠ 46 ∧ c ≠ 41 ∧ c ≠ 42 ∧ c ≠ 43 ∧ c ≠ 63 ∧ c ≠ 123 ∧ c ≠ 124 := by
  rcases nota_cases hx with ⟨m, e, _⟩ | ⟨e, h⟩
  · exact ⟨92, m, e, by decide⟩
  · exact ⟨x, [], e, by
      refine ⟨?_, ?_, ?_, ?_, ?_, ?_, ?_, ?_, ?_, ?_, ?_, ?_⟩ <;> (intro e; subst e; exact h (by decide))⟩
theorem atom_nota {x : Nat} (hx : x < 256) (f : Nat) (r : List Nat) : prs (f + 1) .atom (nb (nota x) ++ r) = .ok (.set (one x)) r := by
  rcases nota_cases hx with ⟨m, e, h⟩ | ⟨e, h⟩
  · rw [e]
    show prs (f + 1) .atom (92 :: (m ++ r)) = _
    unfold prs
    simp only [show ¬ (92 = 40) by decide, show ¬ (92 = 91) by decide, show ¬ (92 = 46) by decide, if_false, if_true]
    rw [h]
  · rw [e]
    show prs (f + 1) .atom (x :: r) = _
    unfold prs
    have n : ∀ k ∈ maskL, x ≠ k := fun k hk e => h (by rw [e]; exact hk)
    simp only [if_neg (n 40 (by decide)), if_neg (n 91 (by decide)), if_neg (n 46 (by decide)), if_neg (n 92 (by decide)), if_neg (fun hs => h (spc_mask x hs))]

theorem one_set (c : Nat) : isSet (one c) := ofS_set _
theorem has_one {c d : Nat} (hc : c < 256) (hd : d < 256) : has (one c) d = decide (d = c) := by
  unfold one
  rw [has_ofS _ hd]
  simp
  congr 1
  rw [Nat.mod_eq_of_lt (by omega)]
/-- The list of a class is read to its end: what has been read so far goes on. -/
theorem cls_list (at' : Nat) (neg : Bool) (r : List Nat) : ∀ (n : Nat) (b : List Nat), b.length ≤ n → asc b → (∀ x ∈ b, x < 256) → ∀ (acc : List Nat), isSet acc → ∀ f, (nb (lstQ b)).length + 1 ≤ f →
    ∃ (acc' : List Nat) (f' : Nat), isSet acc' ∧ (∀ c, c < 256 → has acc' c = (has acc c || decide (c ∈ b))) ∧ clsP at' neg f acc (nb (lstQ b) ++ 93 :: r) = clsP at' neg (f' + 1) acc' (93 :: r)
  | _, [], _, _, _, acc, ha, f, hf => by
    rw [lstQ_nil] at hf ⊢
    obtain ⟨f', rfl⟩ : ∃ f', f = f' + 1 := ⟨f - 1, by simp [nb] at hf; omega⟩
    exact ⟨acc, f', ha, fun c _ => by simp, rfl⟩
  | 0, x :: q, h, _, _, _, _, _, _ => absurd h (by simp)
  | n + 1, x :: q, hn, hasc, hlt, acc, ha, f, hf => by
    have hx : x < 256 := hlt x (by simp)
    rw [List.length_cons] at hn
    obtain ⟨c0, m0, e0, z93, z45, _⟩ := nota_head hx
    have hpos : 1 ≤ (nb (nota x)).length := by rw [e0]; simp
    by_cases h2 : 2 ≤ runF x q
    · have hle := runF_le x q
      have hy : (x :: q)[runF x q]? = some (x + runF x q) := runF_get x q _ (Nat.le_refl _)
      have hy256 : x + runF x q < 256 := hlt _ (List.mem_of_getElem? hy)
      obtain ⟨c1, m1, e1, y93, _⟩ := nota_head hy256
      rw [lstQ_run h2] at hf ⊢
      have hacc : isSet (orL acc (frm x (x + runF x q + 1))) := orL_set ha (frm_set _ _)
      rw [nb_append, nb_cons, nb_append] at hf
      have hf1 : (nb (lstQ (q.drop (runF x q)))).length + 1 ≤ f - 1 := by
        simp only [List.length_append, List.length_cons] at hf; omega
      obtain ⟨acc', f', g1, g2, g3⟩ := cls_list at' neg r n (q.drop (runF x q)) (by rw [List.length_drop]; omega) (by have := asc_drop hasc (runF x q + 1); rwa [List.drop_succ_cons] at this) (fun z hz => hlt z (by simp [List.mem_of_mem_drop hz])) _ hacc (f - 1) hf1
      refine ⟨acc', f', g1, fun c hc => ?_, ?_⟩
      · rw [g2 c hc, has_or hc, has_frm hy256 hc, Bool.or_assoc]
        congr 1
        rw [Bool.eq_iff_iff]
        simp only [Bool.or_eq_true, Bool.and_eq_true, decide_eq_true_eq]
        constructor
        · rintro (⟨k1, k2⟩ | k)
          · obtain ⟨j, hj⟩ : ∃ j, c = x + j := ⟨c - x, by omega⟩
            have := runF_get x q j (by omega)
            rw [← hj] at this
            exact List.mem_of_getElem? this
          · exact List.mem_cons_of_mem _ (List.mem_of_mem_drop k)
        · intro k
          obtain ⟨j, hj, hjc⟩ := List.getElem_of_mem k
          have hj' : (x :: q)[j]? = some c := by rw [List.getElem?_eq_getElem hj, hjc]
          by_cases hjr : j ≤ runF x q
          · have := runF_get x q j hjr
            rw [hj'] at this
            injection this with this
            exact .inl ⟨by omega, by omega⟩
          · refine .inr ?_
            have : (q.drop (runF x q))[j - runF x q - 1]? = some c := by
              rw [List.getElem?_drop]
              rw [show j = (runF x q + (j - runF x q - 1)) + 1 by omega, List.getElem?_cons_succ] at hj'
              exact hj'
            exact List.mem_of_getElem? this
      · rw [← g3]
        obtain ⟨f0, rfl⟩ : ∃ f0, f = f0 + 1 := ⟨f - 1, by omega⟩
        rw [nb_append, nb_cons, nb_append, show f0 + 1 - 1 = f0 by omega, e0]
        show clsP at' neg (f0 + 1) acc (c0 :: (m0 ++ 45 :: (nb (nota (x + runF x q)) ++ nb (lstQ (q.drop (runF x q)))) ++ 93 :: r)) = _
        rw [clsP, if_neg z93]
        have hc := chr_nota hx (45 :: (nb (nota (x + runF x q)) ++ (nb (lstQ (q.drop (runF x q))) ++ 93 :: r)))
        rw [e0] at hc
        have hc' : chrP (c0 :: (m0 ++ 45 :: (nb (nota (x + runF x q)) ++ nb (lstQ (q.drop (runF x q)))) ++ 93 :: r)) = .ok (one x, some x) (45 :: (nb (nota (x + runF x q)) ++ (nb (lstQ (q.drop (runF x q))) ++ 93 :: r))) := by
          rw [← hc]; simp
        rw [hc']
        have hd := chr_nota hy256 (nb (lstQ (q.drop (runF x q))) ++ 93 :: r)
        rw [e1] at hd ⊢
        rw [List.cons_append] at hd
        show (if c1 = 93 then _ else match chrP (c1 :: (m1 ++ (nb (lstQ (q.drop (runF x q))) ++ 93 :: r))) with | .err e k => _ | .ok (_, o') r4 => _) = _
        rw [if_neg y93, hd]
        show (if x + runF x q < x then _ else _) = _
        rw [if_neg (by omega)]
    · rw [lstQ_one h2] at hf ⊢
      have hacc : isSet (orL acc (one x)) := orL_set ha (one_set _)
      rw [nb_append] at hf
      have hf1 : (nb (lstQ q)).length + 1 ≤ f - 1 := by
        simp only [List.length_append] at hf; omega
      obtain ⟨acc', f', g1, g2, g3⟩ := cls_list at' neg r n q (by omega) (by have := asc_drop hasc 1; simpa using this) (fun z hz => hlt z (by simp [hz])) _ hacc (f - 1) hf1
      refine ⟨acc', f', g1, fun c hc => ?_, ?_⟩
      · rw [g2 c hc, has_or hc, has_one hx hc, Bool.or_assoc]
        congr 1
        rw [Bool.eq_iff_iff]
        simp
      · rw [← g3]
        obtain ⟨f0, rfl⟩ : ∃ f0, f = f0 + 1 := ⟨f - 1, by omega⟩
        have hc := chr_nota hx (nb (lstQ q) ++ 93 :: r)
        rw [nb_append, show f0 + 1 - 1 = f0 by omega, List.append_assoc]
        rw [e0] at hc ⊢
        show clsP at' neg (f0 + 1) acc (c0 :: (m0 ++ (nb (lstQ q) ++ 93 :: r))) = _
        rw [clsP, if_neg z93, show c0 :: (m0 ++ (nb (lstQ q) ++ 93 :: r)) = c0 :: m0 ++ (nb (lstQ q) ++ 93 :: r) from rfl, hc]
        -- what stands behind it is no minus sign
        have hm : ∃ d m, nb (lstQ q) ++ 93 :: r = d :: m ∧ d ≠ 45 := by
          cases q with
          | nil => rw [lstQ_nil]; exact ⟨93, r, rfl, by decide⟩
          | cons y q' =>
            obtain ⟨c2, m2, e2, _, w45, _⟩ := nota_head (hlt y (by simp))
            by_cases h3 : 2 ≤ runF y q'
            · rw [lstQ_run h3, nb_append, e2]; exact ⟨c2, _, rfl, w45⟩
            · rw [lstQ_one h3, nb_append, e2]; exact ⟨c2, _, rfl, w45⟩
        obtain ⟨d, m, ed, hd45⟩ := hm
        rw [ed]
        dsimp only
        split
        · next h =>
          injection h with h1 h2
          exact absurd h1 hd45
        · rfl

/-- A set as it is shown. -/
def shN (a : List Nat) : List Nat := nb (shwQ a (notL a))
theorem byt_lt {a : List Nat} : ∀ x ∈ byt a, x < 256 := fun _ hx => (mem_byt.1 hx).1
theorem byt_nil {a : List Nat} (ha : isSet a) (h : byt a = []) : a = zero := set_ext ha zero_set fun c hc => by
  rw [has_zero hc, Bool.eq_false_iff]
  intro e
  have : c ∈ byt a := mem_byt.2 ⟨hc, e⟩
  rw [h] at this
  cases this
theorem or_zero {b : List Nat} {acc a : List Nat} (ha : isSet acc) (hs : isSet a) (hb : b = byt a) (h : ∀ c, c < 256 → has acc c = (has zero c || decide (c ∈ b))) : acc = a := set_ext ha hs fun c hc => by
  rw [h c hc, has_zero hc, Bool.false_or, hb, Bool.eq_iff_iff]
  simp only [decide_eq_true_eq]
  exact ⟨fun k => (mem_byt.1 k).2, fun k => mem_byt.2 ⟨hc, k⟩⟩
/-- What is shown of a set is read as that set. -/
theorem set_atom {a : List Nat} (ha : isSet a) (hz : a ≠ zero) (f : Nat) (r : List Nat) : prs (f + 1) .atom (shN a ++ r) = .ok (.set a) r := by
  unfold shN
  by_cases h1 : (byt a).length = 1
  · obtain ⟨x, hx⟩ : ∃ x, byt a = [x] := List.length_eq_one_iff.1 h1
    rw [shw_one hx, atom_nota (byt_lt x (by rw [hx]; simp))]
    have e : one x = a := by
      have := ofS_byt ha
      rw [hx] at this
      exact this
    rw [e]
  · by_cases h2 : 128 < (byt a).length
    · rw [shw_big h1 h2, nb_cons, nb_cons, nb_append]
      show prs (f + 1) .atom (91 :: 94 :: (nb (lstQ (byt (notL a))) ++ [93] ++ r)) = _
      rw [List.append_assoc, show [93] ++ r = 93 :: r from rfl]
      unfold prs
      simp only [show ¬ (91 = 40) by decide, if_false, if_true]
      obtain ⟨acc, f', g1, g2, g3⟩ := cls_list ((nb (lstQ (byt (notL a))) ++ 93 :: r).length + 1 + 1) true r _ (byt (notL a)) (Nat.le_refl _) (asc_byt _) byt_lt zero zero_set ((nb (lstQ (byt (notL a))) ++ 93 :: r).length + 1) (by rw [List.length_append]; omega)
      have hacc : acc = notL a := or_zero g1 (notL_set ha) rfl g2
      rw [List.length_cons, g3, clsP, if_pos rfl, if_pos rfl, hacc, not_not ha, if_neg hz]
    · rw [shw_low h1 h2, nb_cons, nb_append]
      show prs (f + 1) .atom (91 :: (nb (lstQ (byt a)) ++ [93] ++ r)) = _
      rw [List.append_assoc, show [93] ++ r = 93 :: r from rfl]
      obtain ⟨x, q, hxq⟩ : ∃ x q, byt a = x :: q := by
        cases h : byt a with
        | nil => exact absurd (byt_nil ha h) hz
        | cons x q => exact ⟨x, q, rfl⟩
      obtain ⟨d, m, ed, hd⟩ : ∃ d m, nb (lstQ (byt a)) ++ 93 :: r = d :: m ∧ d ≠ 94 := by
        obtain ⟨c2, m2, e2, _, _, w94, _⟩ := nota_head (byt_lt x (by rw [hxq]; simp))
        rw [hxq]
        by_cases h3 : 2 ≤ runF x q
        · rw [lstQ_run h3, nb_append, e2]; exact ⟨c2, _, rfl, w94⟩
        · rw [lstQ_one h3, nb_append, e2]; exact ⟨c2, _, rfl, w94⟩
      obtain ⟨acc, f', g1, g2, g3⟩ := cls_list ((nb (lstQ (byt a)) ++ 93 :: r).length + 1) false r _ (byt a) (Nat.le_refl _) (asc_byt _) byt_lt zero zero_set ((nb (lstQ (byt a)) ++ 93 :: r).length + 1) (by rw [List.length_append]; omega)
      have hacc : acc = a := or_zero g1 ha rfl g2
      rw [ed] at g3 ⊢
      unfold prs
      simp only [show ¬ (91 = 40) by decide, if_false, if_true, if_neg hd]
      rw [g3, clsP, if_pos rfl]
      simp only [Bool.false_eq_true, if_false, hacc, if_neg hz]
/-- .. its first byte. -/
theorem set_head (a : List Nat) : ∃ c m, shN a = c :: m ∧ c ≠ 41 ∧ c ≠ 42 ∧ c ≠ 43 ∧ c ≠ 63 ∧ c ≠ 123 ∧ c ≠ 124 := by
  unfold shN
  by_cases h1 : (byt a).length = 1
  · obtain ⟨x, hx⟩ : ∃ x, byt a = [x] := List.length_eq_one_iff.1 h1
    rw [shw_one hx]
    obtain ⟨c, m, e, _, _, _, _, _, _, k1, k2, k3, k4, k5, k6⟩ := nota_head (byt_lt x (by rw [hx]; simp))
    exact ⟨c, m, e, k1, k2, k3, k4, k5, k6⟩
  · by_cases h2 : 128 < (byt a).length
    · rw [shw_big h1 h2]; exact ⟨91, _, rfl, by decide⟩
    · rw [shw_low h1 h2]; exact ⟨91, _, rfl, by decide⟩
end Go.Proofs.YtabcehifdomolaaDoor.Rs
namespace Go.Proofs.YtabcehifdomolaaDoor.Rt
open Go.Proofs.YtabcehifdomolaaDoor.Tm Go.Proofs.YtabcehifdomolaaDoor.Ts Go.Proofs.YtabcehifdomolaaDoor.Ta Go.Proofs.YtabcehifdomolaaDoor.Tb Go.Proofs.YtabcehifdomolaaDoor.Rm Go.Proofs.YtabcehifdomolaaDoor.Rs

/-- A number of at most 30, in decimal digits. -/
def decQ (n : Nat) : List Nat := if n < 10 then [48 + n] else [48 + n / 10, 48 + n % 10]
def timQ (lo : Nat) (hi : Int) : List Nat := 123 :: (decQ lo ++ (if hi < 0 then [44] else if (lo : Int) < hi then 44 :: decQ hi.toNat else []) ++ [125])
def isAlt : T → Bool
  | .alt _ => true
  | _ => false
def isCat : T → Bool
  | .cat _ => true
  | _ => false
/-- Shown as an atom without parentheses. -/
def isAtm : T → Bool
  | .set _ => true
  | .emp => true
  | _ => false
/-- In parentheses, if so. -/
def par (b : Bool) (l : List Nat) : List Nat := if b = true then 40 :: (l ++ [41]) else l
mutual
/-- A tree as text. -/
def tx : T → List Nat
  | .set a => shN a
  | .emp => [40, 41]
  | .cat l => txC l
  | .alt l => txA l
  | .star t => par (!isAtm t) (tx t) ++ [42]
  | .plus t => par (!isAtm t) (tx t) ++ [43]
  | .opt t => par (!isAtm t) (tx t) ++ [63]
  | .rep lo hi t => par (!isAtm t) (tx t) ++ timQ lo hi
def txC : List T → List Nat
  | [] => []
  | t :: l => par (isAlt t || isCat t) (tx t) ++ txC l
/-- Each part behind a |. -/
def txB : List T → List Nat
  | [] => []
  | t :: l => 124 :: (par (isAlt t) (tx t) ++ txB l)
def txA : List T → List Nat
  | [] => []
  | t :: l => par (isAlt t) (tx t) ++ txB l
end

/-- No repetition begins here. -/
def noRep (r : List Nat) : Prop := r.head? ≠ some 42 ∧ r.head? ≠ some 43 ∧ r.head? ≠ some 63 ∧ r.head? ≠ some 123
/-- A cat ends here; an alt does. -/
def endC (r : List Nat) : Prop := r = [] ∨ r.head? = some 41 ∨ r.head? = some 124
def endA (r : List Nat) : Prop := r = [] ∨ r.head? = some 41
theorem endA.c {r : List Nat} (h : endA r) : endC r := h.elim .inl (fun k => .inr (.inl k))
theorem endC.rep {r : List Nat} (h : endC r) : noRep r := by
  rcases h with rfl | h | h
  · exact ⟨by simp, by simp, by simp, by simp⟩
  · unfold noRep; rw [h]; decide
  · unfold noRep; rw [h]; decide
/-- The first byte of what is shown of a right tree. -/
def good (l : List Nat) : Prop := ∃ c m, l = c :: m ∧ c ≠ 41 ∧ c ≠ 42 ∧ c ≠ 43 ∧ c ≠ 63 ∧ c ≠ 123 ∧ c ≠ 124
theorem good_par {b : Bool} {l : List Nat} (h : good l) : good (par b l) := by
  cases b
  · exact h
  · exact ⟨40, _, rfl, by decide⟩
theorem good_app {l m : List Nat} (h : good l) : good (l ++ m) := by
  obtain ⟨c, q, rfl, k⟩ := h
  exact ⟨c, q ++ m, rfl, k⟩
mutual
theorem good_tx : ∀ t : T, okT t → good (tx t)
  | .set a, _ => by unfold tx; exact set_head a
  | .emp, _ => by unfold tx; exact ⟨40, _, rfl, by decide⟩
  | .cat l, h => by unfold tx; unfold okT at h; exact good_txC l h.2 h.1
  | .alt l, h => by
    unfold tx
    unfold okT at h
    match l, h with
    | t :: l, h => unfold txA; have h2 := h.2; unfold okTs at h2; exact good_app (good_par (good_tx t h2.1))
    | [], h => exact absurd h.1 (by simp)
  | .star t, h => by unfold tx; unfold okT at h; exact good_app (good_par (good_tx t h))
  | .plus t, h => by unfold tx; unfold okT at h; exact good_app (good_par (good_tx t h))
  | .opt t, h => by unfold tx; unfold okT at h; exact good_app (good_par (good_tx t h))
  | .rep lo hi t, h => by unfold tx; unfold okT at h; exact good_app (good_par (good_tx t h.2.2))
theorem good_txC : ∀ l : List T, okTs l → 2 ≤ l.length → good (txC l)
  | [], _, h => absurd h (by simp)
  | t :: l, h, _ => by unfold txC; unfold okTs at h; exact good_app (good_par (good_tx t h.1))
end
theorem good_noRep {l m : List Nat} (h : good l) : noRep (l ++ m) := by
  obtain ⟨c, q, rfl, _, k2, k3, k4, k5, _⟩ := h
  unfold noRep
  simp only [List.cons_append, List.head?_cons, ne_eq, Option.some.injEq]
  exact ⟨k2, k3, k4, k5⟩
/-- The digits are read. -/
theorem num_dec {n : Nat} (h : n ≤ 30) {c : Nat} (hc : digQ c = false) (r : List Nat) : numP (decQ n ++ c :: r) = .ok n (c :: r) := by
  unfold decQ
  have d : ∀ k < 10, digQ (48 + k) = true := by decide
  split
  · next h10 =>
    show numP ((48 + n) :: c :: r) = _
    rw [numP, if_pos (d n h10)]
    simp only [hc, Bool.false_eq_true, if_false]
    rw [show 48 + n - 48 = n by omega]
  · show numP ((48 + n / 10) :: (48 + n % 10) :: c :: r) = _
    rw [numP, if_pos (d _ (by omega))]
    simp only [d (n % 10) (by omega), if_true]
    rw [show 10 * (48 + n / 10 - 48) + (48 + n % 10 - 48) = n by omega]
theorem dec_head (n : Nat) (h : n ≤ 30) : ∃ c m, decQ n = c :: m ∧ c ≠ 125 := by
  unfold decQ
  split
  · exact ⟨_, _, rfl, by omega⟩
  · exact ⟨_, _, rfl, by omega⟩
theorem tim_read {lo : Nat} {hi : Int} (h1 : lo ≤ 30) (h2 : hi = -1 ∨ ((lo : Int) ≤ hi ∧ hi ≤ 30)) (k : Nat) (r : List Nat) : ∃ m, timQ lo hi ++ r = 123 :: m ∧ timP k m = .ok (lo, hi) r := by
  unfold timQ
  refine ⟨_, rfl, ?_⟩
  show timP k (decQ lo ++ (if hi < 0 then [44] else if (lo : Int) < hi then 44 :: decQ hi.toNat else []) ++ [125] ++ r) = _
  rcases h2 with rfl | ⟨g1, g2⟩
  · rw [if_pos (by decide), List.append_assoc, List.append_assoc, show [44] ++ ([125] ++ r) = 44 :: 125 :: r from rfl]
    unfold timP
    rw [num_dec h1 (by decide)]
    simp only [List.head?_cons, if_true]
    rw [endP, if_pos rfl, if_neg (by omega)]
  · by_cases g : (lo : Int) < hi
    · rw [if_neg (by omega), if_pos g, List.append_assoc, List.append_assoc, show 44 :: decQ hi.toNat ++ ([125] ++ r) = 44 :: (decQ hi.toNat ++ 125 :: r) by simp]
      unfold timP
      rw [num_dec h1 (by decide)]
      obtain ⟨c, m, e, hc⟩ := dec_head hi.toNat (by omega)
      have hh : (decQ hi.toNat ++ 125 :: r).head? ≠ some 125 := by rw [e]; simpa using hc
      simp only [hh, if_false, num_dec (show hi.toNat ≤ 30 by omega) (show digQ 125 = false by decide)]
      rw [endP, if_pos rfl, if_neg (by omega), show ((hi.toNat : Nat) : Int) = hi by omega]
    · rw [if_neg (by omega), if_neg g, List.append_nil, List.append_assoc, show [125] ++ r = 125 :: r from rfl]
      unfold timP
      rw [num_dec h1 (by decide)]
      unfold endP
      simp only [if_true]
      rw [if_neg (by omega), show hi = (lo : Int) by omega]

/-- What each part of the reader makes of a shown tree. -/
structure rd (t : T) : Prop where
  a : ∀ f r, 4 * (tx t ++ r).length + 4 ≤ f → endA r → prs f .alt (tx t ++ r) = .ok t r
  c : isAlt t = false → ∀ f r, 4 * (tx t ++ r).length + 3 ≤ f → endC r → prs f (.cat []) (tx t ++ r) = .ok t r
  r : isAlt t = false → isCat t = false → ∀ f r, 4 * (tx t ++ r).length + 2 ≤ f → noRep r → prs f .rep (tx t ++ r) = .ok t r
theorem reps_stop {r : List Nat} (h : noRep r) (f : Nat) (t : T) : prs (f + 1) (.reps t) r = .ok t r := by
  cases r with
  | nil => rfl
  | cons c m =>
    unfold noRep at h
    simp only [List.head?_cons, ne_eq, Option.some.injEq] at h
    rw [prs]
    simp only [if_neg h.1, if_neg h.2.1, if_neg h.2.2.1, if_neg h.2.2.2]
theorem cat_stop {r : List Nat} (h : endC r) (f : Nat) (acc : List T) : prs (f + 1) (.cat acc) r = .ok (if acc = [] then .emp else many .cat acc) r := by
  rcases h with rfl | h | h
  · rfl
  · obtain ⟨m, rfl⟩ : ∃ m, r = 41 :: m := by
      cases r with
      | nil => cases h
      | cons c m => simp at h; exact ⟨m, by rw [h]⟩
    rw [prs]; rfl
  · obtain ⟨m, rfl⟩ : ∃ m, r = 124 :: m := by
      cases r with
      | nil => cases h
      | cons c m => simp at h; exact ⟨m, by rw [h]⟩
    rw [prs]; rfl
theorem alts_stop {r : List Nat} (h : endA r) (f : Nat) (acc : List T) : prs (f + 1) (.alts acc) r = .ok (many .alt acc) r := by
  rcases h with rfl | h
  · rfl
  · obtain ⟨m, rfl⟩ : ∃ m, r = 41 :: m := by
      cases r with
      | nil => cases h
      | cons c m => simp at h; exact ⟨m, by rw [h]⟩
    rw [prs]; rfl
/-- In parentheses it is an atom. -/
theorem atom_par {t : T} (h : rd t) (f : Nat) (r : List Nat) (hf : 4 * (40 :: (tx t ++ [41]) ++ r).length + 1 ≤ f) : prs f .atom (40 :: (tx t ++ [41]) ++ r) = .ok t r := by
  obtain ⟨f, rfl⟩ : ∃ g, f = g + 1 := ⟨f - 1, by simp at hf; omega⟩
  have e : 40 :: (tx t ++ [41]) ++ r = 40 :: (tx t ++ 41 :: r) := by simp
  rw [e] at hf ⊢
  unfold prs
  simp only [if_true]
  rw [h.a f (41 :: r) (by simp at hf ⊢; omega) (.inr rfl)]
  simp only [if_true]
/-- .. an atom as it is shown below a repetition. -/
theorem atom_q {t : T} (hk : okT t) (h : rd t) (f : Nat) (r : List Nat) (hf : 4 * (par (!isAtm t) (tx t) ++ r).length + 1 ≤ f) : prs f .atom (par (!isAtm t) (tx t) ++ r) = .ok t r := by
  by_cases ha : isAtm t = true
  · obtain ⟨f, rfl⟩ : ∃ g, f = g + 1 := ⟨f - 1, by omega⟩
    rw [ha]
    show prs (f + 1) .atom (tx t ++ r) = _
    match t, ha, hk with
    | .set a, _, hk => unfold tx; unfold okT at hk; exact set_atom hk.1 hk.2 f r
    | .emp, _, _ =>
      unfold tx
      obtain ⟨g, rfl⟩ : ∃ g, f = g + 3 := ⟨f - 3, by simp [par, isAtm, tx] at hf; omega⟩
      rfl
  · have hb : isAtm t = false := by simpa using ha
    rw [hb] at hf ⊢
    exact atom_par h f r hf
/-- A tree that is read as a rep is read as a cat, and so as an alt. -/
theorem cat_of_rep {t : T} (hk : okT t) (hr : ∀ f r, 4 * (tx t ++ r).length + 2 ≤ f → noRep r → prs f .rep (tx t ++ r) = .ok t r) (f : Nat) (r : List Nat) (hf : 4 * (tx t ++ r).length + 3 ≤ f) (he : endC r) : prs f (.cat []) (tx t ++ r) = .ok t r := by
  obtain ⟨f, rfl⟩ : ∃ g, f = g + 1 := ⟨f - 1, by omega⟩
  have hx := hr f r (by omega) he.rep
  obtain ⟨c, m, e, k1, _, _, _, _, k6⟩ := good_tx t hk
  rw [e, List.cons_append] at hx hf ⊢
  unfold prs
  simp only [if_neg (show ¬ (c = 124 ∨ c = 41) by rintro (h | h); exact k6 h; exact k1 h)]
  rw [hx]
  simp only
  obtain ⟨f, rfl⟩ : ∃ g, f = g + 1 := ⟨f - 1, by simp at hf; omega⟩
  rw [cat_stop he]
  rfl
theorem alt_of_cat {t : T} (hc : ∀ f r, 4 * (tx t ++ r).length + 3 ≤ f → endC r → prs f (.cat []) (tx t ++ r) = .ok t r) (f : Nat) (r : List Nat) (hf : 4 * (tx t ++ r).length + 4 ≤ f) (he : endA r) : prs f .alt (tx t ++ r) = .ok t r := by
  obtain ⟨f, rfl⟩ : ∃ g, f = g + 1 := ⟨f - 1, by omega⟩
  unfold prs
  rw [hc f r (by omega) he.c]
  simp only
  obtain ⟨f, rfl⟩ : ∃ g, f = g + 1 := ⟨f - 1, by omega⟩
  rw [alts_stop he]
  rfl
theorem rd_of_rep {t : T} (hk : okT t) (hr : ∀ f r, 4 * (tx t ++ r).length + 2 ≤ f → noRep r → prs f .rep (tx t ++ r) = .ok t r) : rd t :=
  ⟨fun f r hf he => alt_of_cat (fun f r hf he => cat_of_rep hk hr f r hf he) f r hf he, fun _ f r hf he => cat_of_rep hk hr f r hf he, fun _ _ => hr⟩
/-- A repetition behind what is shown as an atom. -/
theorem rep_step {t t' : T} (hk : okT t) (h : rd t) (w : List Nat) (c : Nat) (hw : ∀ r, ∃ m, w ++ r = c :: m ∧ ∀ g, prs (g + 1) (.reps t) (c :: m) = prs g (.reps t') r) (ht : tx t' = par (!isAtm t) (tx t) ++ w) (hl : 1 ≤ w.length) (f : Nat) (r : List Nat)
    (hf : 4 * (tx t' ++ r).length + 2 ≤ f) (hn : noRep r) : prs f .rep (tx t' ++ r) = .ok t' r := by
  obtain ⟨f, rfl⟩ : ∃ g, f = g + 1 := ⟨f - 1, by omega⟩
  rw [ht, List.append_assoc] at hf ⊢
  unfold prs
  rw [atom_q hk h f (w ++ r) (by omega)]
  obtain ⟨m, e, hm⟩ := hw r
  simp only
  have hlen : 1 ≤ (w ++ r).length := by rw [List.length_append]; omega
  rw [List.length_append] at hf
  obtain ⟨g, rfl⟩ : ∃ g, f = g + 2 := ⟨f - 2, by omega⟩
  rw [e, hm, reps_stop hn]
/-- A part of a cat: in parentheses, if it is an alt or a cat. -/
theorem part_rep {t : T} (h : rd t) (f : Nat) (r : List Nat) (hf : 4 * (par (isAlt t || isCat t) (tx t) ++ r).length + 2 ≤ f) (hn : noRep r) : prs f .rep (par (isAlt t || isCat t) (tx t) ++ r) = .ok t r := by
  by_cases hb : (isAlt t || isCat t) = true
  · rw [hb] at hf ⊢
    obtain ⟨f, rfl⟩ : ∃ g, f = g + 1 := ⟨f - 1, by omega⟩
    unfold prs
    have := atom_par h f r (by simp [par] at hf ⊢; omega)
    show (match prs f .atom (40 :: (tx t ++ [41]) ++ r) with | .err e k => _ | .ok t r1 => _) = _
    rw [this]
    simp only
    obtain ⟨f, rfl⟩ : ∃ g, f = g + 1 := ⟨f - 1, by omega⟩
    rw [reps_stop hn]
  · have hb' : (isAlt t || isCat t) = false := by simpa using hb
    rw [hb'] at hf ⊢
    simp only [Bool.or_eq_false_iff] at hb'
    exact h.r hb'.1 hb'.2 f r hf hn
theorem cat_loop (r : List Nat) (he : endC r) : ∀ (l : List T), okTs l → (∀ t ∈ l, rd t) → ∀ (acc : List T) (f : Nat), 4 * (txC l ++ r).length + 3 ≤ f → prs f (.cat acc) (txC l ++ r) = .ok (if acc ++ l = [] then .emp else many .cat (acc ++ l)) r
  | [], _, _, acc, f, hf => by
    obtain ⟨f, rfl⟩ : ∃ g, f = g + 1 := ⟨f - 1, by omega⟩
    unfold txC
    rw [List.nil_append, cat_stop he, List.append_nil]
  | t :: l, hk, hr, acc, f, hf => by
    obtain ⟨f, rfl⟩ : ∃ g, f = g + 1 := ⟨f - 1, by omega⟩
    unfold okTs at hk
    unfold txC at hf ⊢
    rw [List.append_assoc] at hf ⊢
    have hn : noRep (txC l ++ r) := by
      cases l with
      | nil => unfold txC; exact he.rep
      | cons u l => unfold txC; have h2 := hk.2; unfold okTs at h2; rw [List.append_assoc]; exact good_noRep (good_par (good_tx u h2.1))
    have hx := part_rep (hr t (by simp)) f (txC l ++ r) (by omega) hn
    obtain ⟨c, m, e, k1, _, _, _, _, k6⟩ := good_par (b := isAlt t || isCat t) (good_tx t hk.1)
    rw [e] at hx hf ⊢
    rw [List.cons_append] at hx hf ⊢
    unfold prs
    simp only [if_neg (show ¬ (c = 124 ∨ c = 41) by rintro (h | h); exact k6 h; exact k1 h)]
    rw [hx]
    simp only
    rw [cat_loop r he l hk.2 (fun u hu => hr u (by simp [hu])) (acc ++ [t]) f (by simp at hf ⊢; omega)]
    simp
/-- A part of an alt: in parentheses, if it is an alt. -/
theorem part_cat {t : T} (h : rd t) (f : Nat) (r : List Nat) (hf : 4 * (par (isAlt t) (tx t) ++ r).length + 3 ≤ f) (he : endC r) : prs f (.cat []) (par (isAlt t) (tx t) ++ r) = .ok t r := by
  by_cases hb : isAlt t = true
  · have hx := part_rep h (f - 1) r (by rw [hb] at hf ⊢; simp [par] at hf ⊢; omega) he.rep
    rw [hb] at hx hf ⊢
    obtain ⟨f, rfl⟩ : ∃ g, f = g + 1 := ⟨f - 1, by omega⟩
    rw [Bool.true_or, Nat.add_sub_cancel] at hx
    have e : par true (tx t) ++ r = 40 :: (tx t ++ [41] ++ r) := rfl
    rw [e] at hx hf ⊢
    unfold prs
    simp only [show ¬ ((40 : Nat) = 124 ∨ (40 : Nat) = 41) by decide, if_false]
    rw [hx]
    simp only
    obtain ⟨f, rfl⟩ : ∃ g, f = g + 1 := ⟨f - 1, by simp at hf; omega⟩
    rw [cat_stop he]
    rfl
  · have hb' : isAlt t = false := by simpa using hb
    rw [hb'] at hf ⊢
    exact h.c hb' f r hf he
theorem endC_B {r : List Nat} (he : endA r) : ∀ l : List T, endC (txB l ++ r)
  | [] => by unfold txB; exact he.c
  | t :: l => by unfold txB; exact .inr (.inr rfl)
theorem alt_loop (r : List Nat) (he : endA r) : ∀ (l : List T), okTs l → (∀ t ∈ l, rd t) → ∀ (acc : List T) (f : Nat), 4 * (txB l ++ r).length + 1 ≤ f → prs f (.alts acc) (txB l ++ r) = .ok (many .alt (acc ++ l)) r
  | [], _, _, acc, f, hf => by
    obtain ⟨f, rfl⟩ : ∃ g, f = g + 1 := ⟨f - 1, by omega⟩
    unfold txB
    rw [List.nil_append, alts_stop he, List.append_nil]
  | t :: l, hk, hr, acc, f, hf => by
    obtain ⟨f, rfl⟩ : ∃ g, f = g + 1 := ⟨f - 1, by omega⟩
    unfold okTs at hk
    unfold txB at hf ⊢
    rw [List.cons_append, List.append_assoc] at hf ⊢
    rw [List.length_cons] at hf
    unfold prs
    simp only [if_true]
    rw [part_cat (hr t (by simp)) f (txB l ++ r) (by omega) (endC_B he l)]
    simp only
    rw [alt_loop r he l hk.2 (fun u hu => hr u (by simp [hu])) (acc ++ [t]) f (by rw [List.length_append] at hf; omega)]
    simp
theorem many_two {g : List T → T} {l : List T} (h : 2 ≤ l.length) : many g l = g l := by
  match l, h with
  | a :: b :: l, _ => rfl
mutual
theorem rd_all : ∀ t : T, okT t → rd t
  | .set a, hk => rd_of_rep hk (fun f r hf hn => by
      obtain ⟨f, rfl⟩ : ∃ g, f = g + 2 := ⟨f - 2, by omega⟩
      have hk2 := hk
      unfold okT at hk2
      unfold tx
      rw [prs, set_atom hk2.1 hk2.2]
      exact reps_stop hn _ _)
  | .emp, hk => rd_of_rep hk (fun f r hf hn => by
      unfold tx at hf ⊢
      obtain ⟨f, rfl⟩ : ∃ g, f = g + 5 := ⟨f - 5, by simp at hf; omega⟩
      exact reps_stop hn _ _)
  | .star t, hk => by
    have hk2 := hk
    unfold okT at hk2
    exact rd_of_rep hk (rep_step hk2 (rd_all t hk2) [42] 42 (fun r => ⟨r, rfl, fun g => rfl⟩) (by rw [tx]) (by decide))
  | .plus t, hk => by
    have hk2 := hk
    unfold okT at hk2
    exact rd_of_rep hk (rep_step hk2 (rd_all t hk2) [43] 43 (fun r => ⟨r, rfl, fun g => rfl⟩) (by rw [tx]) (by decide))
  | .opt t, hk => by
    have hk2 := hk
    unfold okT at hk2
    exact rd_of_rep hk (rep_step hk2 (rd_all t hk2) [63] 63 (fun r => ⟨r, rfl, fun g => rfl⟩) (by rw [tx]) (by decide))
  | .rep lo hi t, hk => by
    have hk2 := hk
    unfold okT at hk2
    refine rd_of_rep hk (rep_step hk2.2.2 (rd_all t hk2.2.2) (timQ lo hi) 123 (fun r => ?_) (by rw [tx]) (by unfold timQ; simp))
    obtain ⟨m, e, _⟩ := tim_read hk2.1 hk2.2.1 0 r
    refine ⟨m, e, fun g => ?_⟩
    obtain ⟨m', e', h'⟩ := tim_read hk2.1 hk2.2.1 (m.length + 1) r
    rw [e] at e'
    injection e' with _ e'
    subst e'
    rw [prs]
    simp only [show ¬ ((123 : Nat) = 42) by decide, show ¬ ((123 : Nat) = 43) by decide, show ¬ ((123 : Nat) = 63) by decide, if_false, if_true]
    rw [h']
  | .cat l, hk => by
    have hk2 := hk
    unfold okT at hk2
    have hc : ∀ f r, 4 * (tx (.cat l) ++ r).length + 3 ≤ f → endC r → prs f (.cat []) (tx (.cat l) ++ r) = .ok (.cat l) r := fun f r hf he => by
      unfold tx at hf ⊢
      rw [cat_loop r he l hk2.2 (rd_alls l hk2.2) [] f hf, List.nil_append, if_neg (fun e => by rw [e] at hk2; exact absurd hk2.1 (by decide)), many_two hk2.1]
    exact ⟨fun f r hf he => alt_of_cat hc f r hf he, fun _ => hc, fun _ h => absurd h (by simp [isCat])⟩
  | .alt l, hk => by
    have hk2 := hk
    unfold okT at hk2
    refine ⟨fun f r hf he => ?_, fun h => absurd h (by simp [isAlt]), fun h => absurd h (by simp [isAlt])⟩
    match l, hk2 with
    | t :: l, hk2 =>
      have hk3 := hk2.2
      unfold okTs at hk3
      have hall := rd_alls (t :: l) hk2.2
      obtain ⟨f, rfl⟩ : ∃ g, f = g + 1 := ⟨f - 1, by omega⟩
      unfold tx txA at hf ⊢
      rw [List.append_assoc] at hf ⊢
      unfold prs
      rw [part_cat (hall t (by simp)) f (txB l ++ r) (by omega) (endC_B he l)]
      simp only
      rw [alt_loop r he l hk3.2 (fun u hu => hall u (by simp [hu])) [t] f (by rw [List.length_append] at hf; omega)]
      rw [show [t] ++ l = t :: l from rfl, many_two hk2.1]
    | [], hk2 => exact absurd hk2.1 (by simp)
theorem rd_alls : ∀ l : List T, okTs l → ∀ t ∈ l, rd t
  | [], _, _, h => by cases h
  | u :: l, hk, t, h => by
    unfold okTs at hk
    rcases List.mem_cons.1 h with e | h
    · rw [e]; exact rd_all u hk.1
    · exact rd_alls l hk.2 t h
end
/-- What is shown of a right tree of few enough nodes is read as that tree, if it is not too long. -/
theorem parse_show {t : T} (hk : okT t) (hn : (enc t).length ≤ 400) (hl : (tx t).length ≤ 512) : parseQ (tx t) = (0, 0, enc t) := by
  have h := (rd_all t hk).a (6 * (tx t).length + 6) [] (by rw [List.append_nil]; omega) (.inl rfl)
  rw [List.append_nil] at h
  unfold parseQ
  rw [if_neg (by omega), h]
  simp only [if_true]
  rw [if_neg (by omega)]
end Go.Proofs.YtabcehifdomolaaDoor.Rt
namespace Go.Proofs.YtabcehifdomolaaDoor.Ru
open Go.Proofs.YtabcehifdomolaaDoor.Tm Go.Proofs.YtabcehifdomolaaDoor.Ts Go.Proofs.YtabcehifdomolaaDoor.Ta Go.Proofs.YtabcehifdomolaaDoor.Tb Go.Proofs.YtabcehifdomolaaDoor.Rm Go.Proofs.YtabcehifdomolaaDoor.Rs Go.Proofs.YtabcehifdomolaaDoor.Rt

/-- What is said of an outcome: of what is read; of an error. -/
def Out.all {α : Type} (o : Out α) (n : Nat) (p : α → Prop) : Prop := match o with
  | .err e _ => e ≠ 0
  | .ok x r => p x ∧ r.length < n
theorem num_all (r : List Nat) : Out.all (numP r) r.length (fun _ => True) := by
  unfold numP
  cases r with
  | nil => simp [Out.all]
  | cons c r =>
    simp only
    split
    · cases r with
      | nil => simp [Out.all]
      | cons d r' =>
        simp only
        split <;> simp [Out.all]
        omega
    · simp [Out.all]
theorem end_all (k lo : Nat) (hi : Int) (r : List Nat) : Out.all (endP k lo hi r) r.length (fun x => x.1 ≤ 30 ∧ (0 ≤ x.2 → (x.1 : Int) ≤ x.2 ∧ x.2 ≤ 30) ∧ x = (lo, hi)) := by
  unfold endP
  cases r with
  | nil => simp [Out.all]
  | cons c r =>
    simp only
    split
    · split
      · simp [Out.all]
      · simp [Out.all]; omega
    · simp [Out.all]
theorem all_mono {α : Type} {o : Out α} {n m : Nat} {p q : α → Prop} (h : Out.all o n p) (hn : n ≤ m) (hp : ∀ x, p x → q x) : Out.all o m q := by
  cases o with
  | err e k => exact h
  | ok x r => exact ⟨hp x h.1, Nat.lt_of_lt_of_le h.2 hn⟩
def timOk (x : Nat × Int) : Prop := x.1 ≤ 30 ∧ (x.2 = -1 ∨ ((x.1 : Int) ≤ x.2 ∧ x.2 ≤ 30))
theorem tim_of {k lo : Nat} {hi : Int} (hh : hi = -1 ∨ 0 ≤ hi) (r : List Nat) {n : Nat} (hn : r.length ≤ n) : Out.all (endP k lo hi r) n timOk := all_mono (end_all k lo hi r) hn (fun x ⟨h1, h2, h3⟩ => by
  refine ⟨h1, ?_⟩
  rcases hh with h | h
  · exact .inl (by rw [h3]; exact h)
  · exact .inr (h2 (by rw [h3]; exact h)))
theorem tim_all (k : Nat) (r : List Nat) : Out.all (timP k r) r.length timOk := by
  have h := num_all r
  unfold timP
  cases hn : numP r with
  | err e j => rw [hn] at h; exact h
  | ok lo r1 =>
    rw [hn] at h
    have h1 : r1.length < r.length := h.2
    dsimp only
    split
    · next r2 =>
      simp only [List.length_cons] at h1
      split
      · exact tim_of (.inl rfl) _ (by omega)
      · have h3 := num_all r2
        cases hn2 : numP r2 with
        | err e j => rw [hn2] at h3; exact h3
        | ok hi r3 =>
          rw [hn2] at h3
          have h4 : r3.length < r2.length := h3.2
          exact tim_of (.inr (by omega)) _ (by omega)
    · exact tim_of (.inr (by omega)) _ (by omega)
def setOk (a : List Nat) : Prop := isSet a ∧ a ≠ zero
theorem has_ne {a : List Nat} {c : Nat} (hc : c < 256) (h : has a c = true) : a ≠ zero := fun e => by rw [e, has_zero hc] at h; cases h
theorem one_ok (c : Nat) : setOk (one c) := ⟨one_set c, has_ne (c := c % 256) (by omega) (by
  unfold one
  rw [has_ofS _ (by omega)]
  simp)⟩
theorem dig_ok : setOk digS := ⟨frm_set _ _, has_ne (c := 48) (by decide) (by decide +kernel)⟩
theorem wor_ok : setOk worS := ⟨orL_set (one_set _) (orL_set (frm_set _ _) (orL_set (frm_set _ _) (frm_set _ _))), has_ne (c := 95) (by decide) (by decide +kernel)⟩
theorem dot_ok : setOk (notL (one 10)) := ⟨notL_set (one_set _), has_ne (c := 0) (by decide) (by decide +kernel)⟩
theorem esc_all (r : List Nat) : Out.all (escP r) r.length (fun x => setOk x.1) := by
  unfold escP
  cases r with
  | nil => simp [Out.all]
  | cons c r =>
    dsimp only
    repeat' split
    all_goals first
      | exact ⟨one_ok _, by simp only [List.length_cons]; omega⟩
      | exact ⟨dig_ok, by simp only [List.length_cons]; omega⟩
      | exact ⟨wor_ok, by simp only [List.length_cons]; omega⟩
      | simp [Out.all]
theorem chr_all (r : List Nat) : Out.all (chrP r) r.length (fun x => setOk x.1) := by
  unfold chrP
  cases r with
  | nil => simp [Out.all]
  | cons c r =>
    dsimp only
    split
    · exact all_mono (esc_all r) (by simp) (fun _ h => h)
    · split
      · simp [Out.all]
      · exact ⟨one_ok _, by simp⟩
theorem cls_all (k : Nat) (neg : Bool) : ∀ (f : Nat) (acc r : List Nat), isSet acc → r.length + 1 ≤ f → Out.all (clsP k neg f acc r) r.length setOk
  | 0, _, _, _, h => absurd h (by omega)
  | f + 1, acc, [], _, _ => by rw [clsP]; simp [Out.all]
  | f + 1, acc, c :: r, ha, hf => by
    rw [clsP]
    rw [List.length_cons] at hf
    split
    · have hs : isSet (if neg = true then notL acc else acc) := by
        split
        · exact notL_set ha
        · exact ha
      by_cases hz : (if neg = true then notL acc else acc) = zero
      · rw [if_pos hz]; simp [Out.all]
      · rw [if_neg hz]; exact ⟨⟨hs, hz⟩, by simp⟩
    · have h := chr_all (c :: r)
      cases hc : chrP (c :: r) with
      | err e j => rw [hc] at h; exact h
      | ok x r1 =>
        rw [hc] at h
        obtain ⟨x, o⟩ := x
        have h1 : r1.length < r.length + 1 := h.2
        have hx : isSet x := h.1.1
        dsimp only
        split
        · next r2 =>
          simp only [List.length_cons] at h1
          cases r2 with
          | nil => simp [Out.all]
          | cons d r3 =>
            dsimp only
            split
            · simp [Out.all]
            · have h3 := chr_all (d :: r3)
              cases hc2 : chrP (d :: r3) with
              | err e j => rw [hc2] at h3; exact h3
              | ok y r4 =>
                rw [hc2] at h3
                obtain ⟨y, o'⟩ := y
                have h4 : r4.length < r3.length + 1 := h3.2
                simp only [List.length_cons] at h1
                dsimp only
                cases o with
                | none => simp [Out.all]
                | some lo =>
                  cases o' with
                  | none => simp [Out.all]
                  | some hi =>
                    dsimp only
                    split
                    · simp [Out.all]
                    · exact all_mono (cls_all k neg f _ r4 (orL_set ha (frm_set _ _)) (by omega)) (by rw [List.length_cons]; omega) (fun _ h => h)
        · exact all_mono (cls_all k neg f _ r1 (orL_set ha hx) (by omega)) (by rw [List.length_cons]; omega) (fun _ h => h)

/-- How deep the reader goes at the most. -/
def need : Pt → Nat → Nat
  | .alt, n => 4 * n + 4
  | .cat _, n => 4 * n + 3
  | .rep, n => 4 * n + 2
  | .atom, n => 4 * n + 1
  | .alts _, n => 4 * n + 1
  | .reps _, n => 4 * n + 1
def pOk : Pt → Prop
  | .alts acc => acc ≠ [] ∧ okTs acc
  | .cat acc => okTs acc
  | .reps t => okT t
  | _ => True
/-- What is left is shorter, where an atom is read. -/
def lef : Pt → Nat → Nat
  | .rep, n => n
  | .atom, n => n
  | _, n => n + 1
theorem okTs_snoc : ∀ {l : List T} {t : T}, okTs l → okT t → okTs (l ++ [t])
  | [], _, _, h => by rw [List.nil_append]; unfold okTs; exact ⟨h, by unfold okTs; trivial⟩
  | u :: l, t, hl, h => by
    unfold okTs at hl
    rw [List.cons_append]; unfold okTs
    exact ⟨hl.1, okTs_snoc hl.2 h⟩
theorem many_alt {l : List T} (h0 : l ≠ []) (h : okTs l) : okT (many .alt l) := by
  match l, h0, h with
  | [t], _, h => unfold okTs at h; exact h.1
  | a :: b :: l, _, h => show okT (.alt (a :: b :: l)); unfold okT; exact ⟨by simp, h⟩
theorem many_cat {l : List T} (h : okTs l) : okT (if l = [] then .emp else many .cat l) := by
  match l, h with
  | [], _ => rw [if_pos rfl]; unfold okT; trivial
  | [t], h => unfold okTs at h; rw [if_neg (by simp)]; exact h.1
  | a :: b :: l, h => rw [if_neg (by simp)]; show okT (.cat (a :: b :: l)); unfold okT; exact ⟨by simp, h⟩
theorem prs_all : ∀ (f : Nat) (p : Pt) (r : List Nat), pOk p → need p r.length ≤ f → Out.all (prs f p r) (lef p r.length) okT
  | 0, p, r, _, h => by cases p <;> (simp only [need] at h; omega)
  | f + 1, .alt, r, _, h => by
    simp only [need] at h
    have h1 := prs_all f (.cat []) r (by unfold pOk okTs; trivial) (by simp only [need]; omega)
    rw [prs]
    cases hc : prs f (.cat []) r with
    | err e k => rw [hc] at h1; exact h1
    | ok t r1 =>
      rw [hc] at h1
      have h2 : r1.length < r.length + 1 := h1.2
      exact all_mono (prs_all f (.alts [t]) r1 ⟨by simp, by unfold okTs; exact ⟨h1.1, by unfold okTs; trivial⟩⟩ (by simp only [need]; omega)) (by simp only [lef]; omega) (fun _ h => h)
  | f + 1, .alts acc, r, hp, h => by
    simp only [need] at h
    cases r with
    | nil => rw [prs]; exact ⟨many_alt hp.1 hp.2, by simp [lef]⟩
    | cons c r1 =>
      rw [prs]
      rw [List.length_cons] at h
      split
      · have h1 := prs_all f (.cat []) r1 (by unfold pOk okTs; trivial) (by simp only [need]; omega)
        cases hc : prs f (.cat []) r1 with
        | err e k => rw [hc] at h1; exact h1
        | ok t r2 =>
          rw [hc] at h1
          have h2 : r2.length < r1.length + 1 := h1.2
          exact all_mono (prs_all f (.alts (acc ++ [t])) r2 ⟨by simp, okTs_snoc hp.2 h1.1⟩ (by simp only [need]; omega)) (by simp only [lef, List.length_cons]; omega) (fun _ h => h)
      · exact ⟨many_alt hp.1 hp.2, by simp [lef]⟩
  | f + 1, .cat acc, r, hp, h => by
    simp only [need] at h
    cases r with
    | nil => rw [prs]; exact ⟨many_cat hp, by simp [lef]⟩
    | cons c r1 =>
      rw [prs]
      rw [List.length_cons] at h
      split
      · exact ⟨many_cat hp, by simp [lef]⟩
      · have h1 := prs_all f .rep (c :: r1) (by unfold pOk; trivial) (by simp only [need, List.length_cons]; omega)
        cases hc : prs f .rep (c :: r1) with
        | err e k => rw [hc] at h1; exact h1
        | ok t r2 =>
          rw [hc] at h1
          have h2 : r2.length < r1.length + 1 := h1.2
          exact all_mono (prs_all f (.cat (acc ++ [t])) r2 (okTs_snoc hp h1.1) (by simp only [need]; omega)) (by simp only [lef, List.length_cons]; omega) (fun _ h => h)
  | f + 1, .rep, r, _, h => by
    simp only [need] at h
    have h1 := prs_all f .atom r (by unfold pOk; trivial) (by simp only [need]; omega)
    rw [prs]
    cases hc : prs f .atom r with
    | err e k => rw [hc] at h1; exact h1
    | ok t r1 =>
      rw [hc] at h1
      have h2 : r1.length < r.length := h1.2
      exact all_mono (prs_all f (.reps t) r1 h1.1 (by simp only [need]; omega)) (by simp only [lef]; omega) (fun _ h => h)
  | f + 1, .reps t, r, hp, h => by
    simp only [need] at h
    cases r with
    | nil => rw [prs]; exact ⟨hp, by simp [lef]⟩
    | cons c r1 =>
      rw [prs]
      rw [List.length_cons] at h
      have go : ∀ t' r', okT t' → r'.length ≤ r1.length → Out.all (prs f (.reps t') r') (lef (.reps t) (c :: r1).length) okT := fun t' r' ht hr => all_mono (prs_all f (.reps t') r' ht (by simp only [need]; omega)) (by simp only [lef, List.length_cons]; omega) (fun _ h => h)
      split
      · exact go _ _ (by unfold okT; exact hp) (Nat.le_refl _)
      · split
        · exact go _ _ (by unfold okT; exact hp) (Nat.le_refl _)
        · split
          · exact go _ _ (by unfold okT; exact hp) (Nat.le_refl _)
          · split
            · have h1 := tim_all (r1.length + 1) r1
              cases hc : timP (r1.length + 1) r1 with
              | err e k => rw [hc] at h1; exact h1
              | ok x r2 =>
                rw [hc] at h1
                obtain ⟨lo, hi⟩ := x
                have h2 : r2.length < r1.length := h1.2
                exact go _ _ (by unfold okT; exact ⟨h1.1.1, h1.1.2, hp⟩) (by omega)
            · exact ⟨hp, by simp [lef]⟩
  | f + 1, .atom, r, _, h => by
    simp only [need] at h
    cases r with
    | nil => unfold prs; simp [Out.all]
    | cons c r1 =>
      rw [List.length_cons] at h
      unfold prs
      dsimp only
      split
      · have h1 := prs_all f .alt r1 (by unfold pOk; trivial) (by simp only [need]; omega)
        cases hc : prs f .alt r1 with
        | err e k => rw [hc] at h1; exact h1
        | ok t r2 =>
          rw [hc] at h1
          have h2 : r2.length < r1.length + 1 := h1.2
          dsimp only
          cases r2 with
          | nil => simp [Out.all]
          | cons d r3 =>
            dsimp only
            rw [List.length_cons] at h2
            split
            · exact ⟨h1.1, by simp only [lef, List.length_cons]; omega⟩
            · simp [Out.all]
      · split
        · cases r1 with
          | nil => simp [Out.all]
          | cons d r2 =>
            dsimp only
            split
            · have h1 := cls_all ((d :: r2).length + 1) true (r2.length + 1) zero r2 zero_set (by omega)
              cases hc : clsP ((d :: r2).length + 1) true (r2.length + 1) zero r2 with
              | err e k => rw [hc] at h1; exact h1
              | ok a r3 =>
                rw [hc] at h1
                have h2 : r3.length < r2.length := h1.2
                exact ⟨by unfold okT; exact h1.1, by simp only [lef, List.length_cons]; omega⟩
            · have h1 := cls_all ((d :: r2).length + 1) false ((d :: r2).length + 1) zero (d :: r2) zero_set (by omega)
              cases hc : clsP ((d :: r2).length + 1) false ((d :: r2).length + 1) zero (d :: r2) with
              | err e k => rw [hc] at h1; exact h1
              | ok a r3 =>
                rw [hc] at h1
                have h2 : r3.length < (d :: r2).length := h1.2
                rw [List.length_cons] at h2
                exact ⟨by unfold okT; exact h1.1, by simp only [lef, List.length_cons]; omega⟩
        · split
          · exact ⟨by unfold okT; exact dot_ok, by simp [lef]⟩
          · split
            · have h1 := esc_all r1
              cases hc : escP r1 with
              | err e k => rw [hc] at h1; exact h1
              | ok a r2 =>
                rw [hc] at h1
                have h2 : r2.length < r1.length := h1.2
                exact ⟨by unfold okT; exact h1.1, by simp only [lef, List.length_cons]; omega⟩
            · split
              · simp [Out.all]
              · exact ⟨by unfold okT; exact one_ok _, by simp [lef]⟩
/-- What is read: an error that has a number and no nodes, or a right tree of at most 400 nodes. -/
theorem parse_all (s : List Nat) : (∃ e p, parseQ s = (e, p, []) ∧ e ≠ 0 ∧ (p ≤ s.length ∨ 512 < s.length ∧ p = 512)) ∨ ∃ t, okT t ∧ (enc t).length ≤ 400 ∧ parseQ s = (0, 0, enc t) := by
  unfold parseQ
  split
  · next h => exact .inl ⟨3, 512, rfl, by decide, .inr ⟨h, rfl⟩⟩
  · have h := prs_all (6 * s.length + 6) .alt s (by unfold pOk; trivial) (by simp only [need]; omega)
    cases hc : prs (6 * s.length + 6) .alt s with
    | err e k => rw [hc] at h; exact .inl ⟨e, s.length - k, rfl, h, .inl (Nat.sub_le _ _)⟩
    | ok t r =>
      rw [hc] at h
      dsimp only
      split
      · split
        · exact .inl ⟨3, 0, rfl, by decide, .inl (Nat.zero_le _)⟩
        · next h4 => exact .inr ⟨t, h.1, by omega, rfl⟩
      · exact .inl ⟨15, s.length - r.length, rfl, by decide, .inl (Nat.sub_le _ _)⟩
end Go.Proofs.YtabcehifdomolaaDoor.Ru
namespace Go.Proofs.YtabcehifdomolaaDoor.Rv
open Go.Proofs.YtabcehifdomolaaDoor.Tm Go.Proofs.YtabcehifdomolaaDoor.Ts Go.Proofs.YtabcehifdomolaaDoor.Ta Go.Proofs.YtabcehifdomolaaDoor.Rm

/-- How many nodes w trees are; N: how many nodes there are in all. -/
def endW (N : Nat) : List Nd → Nat → Option Nat
  | [], _ => none
  | x :: l, w => if x.n < 0 ∨ (N : Int) < x.n then none else if w - 1 + x.n.toNat = 0 then some 1 else (endW N l (w - 1 + x.n.toNat)).map (· + 1)
mutual
theorem enc_pos : ∀ t : T, 1 ≤ (enc t).length
  | .set a => by simp [enc]
  | .emp => by simp [enc]
  | .cat l => by simp [enc]
  | .alt l => by simp [enc]
  | .star t => by simp [enc]
  | .plus t => by simp [enc]
  | .opt t => by simp [enc]
  | .rep lo hi t => by simp [enc]
theorem encs_le : ∀ l : List T, l.length ≤ (encs l).length
  | [] => by simp [encs]
  | t :: l => by
    have h1 := enc_pos t
    have h2 := encs_le l
    rw [encs, List.length_append, List.length_cons]
    omega
end
/-- One node that has so many children. -/
theorem endW_node {N : Nat} {x : Nd} {k w : Nat} (hx : x.n = (k : Int)) (hk : k ≤ N) (l : List Nd) : endW N (x :: l) (w + 1) = if w + k = 0 then some 1 else (endW N l (w + k)).map (· + 1) := by
  rw [endW, if_neg (by omega), hx, Int.toNat_natCast, Nat.add_sub_cancel]
theorem map_comm {o : Option Nat} (a b : Nat) : (o.map (· + a)).map (· + b) = o.map (· + (a + b)) := by
  cases o with
  | none => rfl
  | some x => simp [Nat.add_assoc]
mutual
/-- Behind a tree w trees are lacking. -/
theorem endW_enc (N : Nat) : ∀ (t : T) (r : List Nd) (w : Nat), (enc t).length ≤ N → endW N (enc t ++ r) (w + 1) = if w = 0 then some (enc t).length else (endW N r w).map (· + (enc t).length)
  | .set a, r, w, _ => by rw [enc, List.cons_append, endW_node (k := 0) rfl (by omega)]; rfl
  | .emp, r, w, _ => by rw [enc, List.cons_append, endW_node (k := 0) rfl (by omega)]; rfl
  | .cat l, r, w, h => by
    rw [enc] at h ⊢
    rw [List.length_cons] at h
    have := encs_le l
    rw [List.cons_append, endW_node (k := l.length) rfl (by omega), Nat.add_comm w]
    exact endW_tail N l r w (by omega) (endW_encs N l r w (by omega))
  | .alt l, r, w, h => by
    rw [enc] at h ⊢
    rw [List.length_cons] at h
    have := encs_le l
    rw [List.cons_append, endW_node (k := l.length) rfl (by omega), Nat.add_comm w]
    exact endW_tail N l r w (by omega) (endW_encs N l r w (by omega))
  | .star t, r, w, h => by
    rw [enc] at h ⊢
    rw [List.length_cons] at h
    rw [List.cons_append, endW_node (k := 1) rfl (by have := enc_pos t; omega), if_neg (by omega), endW_enc N t r w (by omega), List.length_cons]
    split
    · rfl
    · exact map_comm _ _
  | .plus t, r, w, h => by
    rw [enc] at h ⊢
    rw [List.length_cons] at h
    rw [List.cons_append, endW_node (k := 1) rfl (by have := enc_pos t; omega), if_neg (by omega), endW_enc N t r w (by omega), List.length_cons]
    split
    · rfl
    · exact map_comm _ _
  | .opt t, r, w, h => by
    rw [enc] at h ⊢
    rw [List.length_cons] at h
    rw [List.cons_append, endW_node (k := 1) rfl (by have := enc_pos t; omega), if_neg (by omega), endW_enc N t r w (by omega), List.length_cons]
    split
    · rfl
    · exact map_comm _ _
  | .rep lo hi t, r, w, h => by
    rw [enc] at h ⊢
    rw [List.length_cons] at h
    rw [List.cons_append, endW_node (k := 1) rfl (by have := enc_pos t; omega), if_neg (by omega), endW_enc N t r w (by omega), List.length_cons]
    split
    · rfl
    · exact map_comm _ _
theorem endW_encs (N : Nat) : ∀ (l : List T) (r : List Nd) (w : Nat), (encs l).length ≤ N → l ≠ [] → endW N (encs l ++ r) (l.length + w) = if w = 0 then some (encs l).length else (endW N r w).map (· + (encs l).length)
  | [], _, _, _, h => absurd rfl h
  | t :: l, r, w, h, _ => by
    rw [encs, List.length_append] at h
    rw [encs, List.append_assoc, List.length_cons, show l.length + 1 + w = (l.length + w) + 1 by omega, endW_enc N t (encs l ++ r) (l.length + w) (by omega), List.length_append]
    by_cases hl : l = []
    · subst hl
      simp only [List.length_nil, Nat.zero_add, encs, List.nil_append, Nat.add_zero]
    · have hp : 0 < l.length := List.length_pos_iff.2 hl
      rw [if_neg (by omega), endW_encs N l r w (by omega) hl]
      split
      · simp [Nat.add_comm]
      · rw [map_comm, Nat.add_comm]
theorem endW_tail (N : Nat) (l : List T) (r : List Nd) (w : Nat) (_ : (encs l).length ≤ N) (h : l ≠ [] → endW N (encs l ++ r) (l.length + w) = if w = 0 then some (encs l).length else (endW N r w).map (· + (encs l).length)) :
    (if l.length + w = 0 then some 1 else (endW N (encs l ++ r) (l.length + w)).map (· + 1)) = if w = 0 then some ((encs l).length + 1) else (endW N r w).map (· + ((encs l).length + 1)) := by
  by_cases hl : l = []
  · subst hl
    simp only [List.length_nil, Nat.zero_add, encs, List.nil_append]
  · have hp : 0 < l.length := List.length_pos_iff.2 hl
    rw [if_neg (by omega), h hl]
    split
    · rfl
    · exact map_comm _ _
end
/-- A node has what its kind asks. -/
def right (x : Nd) : Prop :=
  (x.k = 1 ∧ x.n = 0 ∧ x.s ≠ zero ∧ x.lo = 0 ∧ x.hi = 0) ∨ (x.k = 2 ∧ x.n = 0 ∧ x.s = zero ∧ x.lo = 0 ∧ x.hi = 0) ∨ ((x.k = 3 ∨ x.k = 4) ∧ 2 ≤ x.n ∧ x.s = zero ∧ x.lo = 0 ∧ x.hi = 0)
    ∨ ((x.k = 5 ∨ x.k = 6 ∨ x.k = 7) ∧ x.n = 1 ∧ x.s = zero ∧ x.lo = 0 ∧ x.hi = 0) ∨ (x.k = 8 ∧ x.n = 1 ∧ x.s = zero ∧ 0 ≤ x.lo ∧ x.lo ≤ 30 ∧ (x.hi = -1 ∨ (x.lo ≤ x.hi ∧ x.hi ≤ 30)))
theorem okTs_app : ∀ {a b : List T}, okTs (a ++ b) ↔ okTs a ∧ okTs b
  | [], b => by
    rw [List.nil_append]
    exact ⟨fun h => ⟨by unfold okTs; trivial, h⟩, fun h => h.2⟩
  | t :: a, b => by
    have e : ∀ l, okTs (t :: l) ↔ (okT t ∧ okTs l) := fun l => by
      conv => lhs; unfold okTs
    rw [List.cons_append, e, e, okTs_app (a := a) (b := b), and_assoc]
theorem encs_app : ∀ (a b : List T), encs (a ++ b) = encs a ++ encs b
  | [], b => by rw [List.nil_append, encs, List.nil_append]
  | t :: a, b => by rw [List.cons_append, encs, encs, encs_app a b, List.append_assoc]
/-- A node and its children are a tree. -/
theorem node_tree {x : Nd} (hs : isSet x.s) (hr : right x) {ts : List T} (hl : (ts.length : Int) = x.n) (hk : okTs ts) : ∃ t, okT t ∧ enc t = x :: encs ts := by
  obtain ⟨k, n, s, lo, hi⟩ := x
  have one : ts.length = 1 → ∃ t, ts = [t] ∧ okT t ∧ encs ts = enc t := fun h => by
    obtain ⟨t, rfl⟩ := List.length_eq_one_iff.1 h
    unfold okTs at hk
    exact ⟨t, rfl, hk.1, by rw [encs, encs, List.append_nil]⟩
  simp only at hs hl
  rcases hr with ⟨h1, h2, h3, h4, h5⟩ | ⟨h1, h2, h3, h4, h5⟩ | ⟨h1, h2, h3, h4, h5⟩ | ⟨h1, h2, h3, h4, h5⟩ | ⟨h1, h2, h3, h4, h5, h6⟩ <;> simp only at h1 h2 h3 h4 h5
  · have e : ts = [] := List.eq_nil_of_length_eq_zero (by omega)
    subst e; subst h1; subst h2; subst h4; subst h5
    exact ⟨.set s, by unfold okT; exact ⟨hs, h3⟩, by rw [enc, encs]⟩
  · have e : ts = [] := List.eq_nil_of_length_eq_zero (by omega)
    subst e; subst h1; subst h2; subst h3; subst h4; subst h5
    exact ⟨.emp, by unfold okT; trivial, by rw [enc, encs]⟩
  · subst h3; subst h4; subst h5; subst hl
    rcases h1 with h1 | h1 <;> subst h1
    · exact ⟨.cat ts, by unfold okT; exact ⟨by omega, hk⟩, by rw [enc]⟩
    · exact ⟨.alt ts, by unfold okT; exact ⟨by omega, hk⟩, by rw [enc]⟩
  · obtain ⟨t, rfl, hk2, he⟩ := one (by omega)
    rw [he]
    subst h2; subst h3; subst h4; subst h5
    rcases h1 with h1 | h1 | h1 <;> subst h1
    · exact ⟨.star t, by unfold okT; exact hk2, by rw [enc]⟩
    · exact ⟨.plus t, by unfold okT; exact hk2, by rw [enc]⟩
    · exact ⟨.opt t, by unfold okT; exact hk2, by rw [enc]⟩
  · obtain ⟨t, rfl, hk2, he⟩ := one (by omega)
    rw [he]
    simp only at h6
    subst h1; subst h2; subst h3
    obtain ⟨m, rfl⟩ := Int.eq_ofNat_of_zero_le h4
    exact ⟨.rep m hi t, by unfold okT; exact ⟨by omega, h6, hk2⟩, by rw [enc]⟩
/-- w trees stand there, if the count comes to its end. -/
theorem trees_of (N : Nat) : ∀ (l : List Nd) (w k : Nat), 1 ≤ w → (∀ x ∈ l, isSet x.s ∧ right x) → endW N l w = some k → ∃ ts r, okTs ts ∧ ts.length = w ∧ l = encs ts ++ r ∧ (encs ts).length = k
  | [], _, _, _, _, h => by rw [endW] at h; cases h
  | x :: l, w, k, hw, hl, h => by
    rw [endW] at h
    split at h
    · cases h
    · next hn =>
      obtain ⟨m, hm⟩ := Int.eq_ofNat_of_zero_le (show 0 ≤ x.n by omega)
      have hx := hl x (by simp)
      by_cases h0 : w - 1 + x.n.toNat = 0
      · rw [if_pos h0] at h
        injection h with h
        obtain ⟨t, ht, he⟩ := node_tree (ts := []) hx.1 hx.2 (by rw [List.length_nil]; omega) (by unfold okTs; trivial)
        refine ⟨[t], l, by unfold okTs; exact ⟨ht, by unfold okTs; trivial⟩, by simp; omega, ?_, ?_⟩
        · rw [encs, encs, List.append_nil, he, encs]; rfl
        · rw [encs, encs, List.append_nil, he, encs, ← h]; rfl
      · rw [if_neg h0] at h
        cases hq : endW N l (w - 1 + x.n.toNat) with
        | none => rw [hq] at h; cases h
        | some k' =>
          rw [hq] at h
          injection h with h
          obtain ⟨ts, r, g1, g2, g3, g4⟩ := trees_of N l _ k' (by omega) (fun y hy => hl y (by simp [hy])) hq
          have hts : ts = ts.take m ++ ts.drop m := (List.take_append_drop m ts).symm
          have hmk : m ≤ ts.length := by rw [g2]; omega
          rw [hts] at g1
          obtain ⟨q1, q2⟩ := okTs_app.1 g1
          obtain ⟨t, ht, he⟩ := node_tree (ts := ts.take m) hx.1 hx.2 (by rw [List.length_take, Nat.min_eq_left hmk, hm]) q1
          refine ⟨t :: ts.drop m, r, by unfold okTs; exact ⟨ht, q2⟩, by rw [List.length_cons, List.length_drop, g2]; omega, ?_, ?_⟩
          · rw [encs, he, g3]
            conv => lhs; rw [hts, encs_app]
            simp
          · rw [encs, he, ← h, ← g4]
            conv => rhs; rw [hts, encs_app]
            simp only [List.length_append, List.length_cons]
            omega
mutual
/-- Each node of a right tree is right. -/
theorem right_enc : ∀ t : T, okT t → ∀ x ∈ enc t, isSet x.s ∧ right x
  | .set a, hk, x, hx => by
    unfold okT at hk
    rw [enc] at hx
    obtain rfl := List.mem_singleton.1 hx
    exact ⟨hk.1, .inl ⟨rfl, rfl, hk.2, rfl, rfl⟩⟩
  | .emp, _, x, hx => by
    rw [enc] at hx
    obtain rfl := List.mem_singleton.1 hx
    exact ⟨zero_set, .inr (.inl ⟨rfl, rfl, rfl, rfl, rfl⟩)⟩
  | .cat l, hk, x, hx => by
    unfold okT at hk
    rw [enc] at hx
    rcases List.mem_cons.1 hx with rfl | hx
    · exact ⟨zero_set, .inr (.inr (.inl ⟨.inl rfl, by simp only; omega, rfl, rfl, rfl⟩))⟩
    · exact right_encs l hk.2 x hx
  | .alt l, hk, x, hx => by
    unfold okT at hk
    rw [enc] at hx
    rcases List.mem_cons.1 hx with rfl | hx
    · exact ⟨zero_set, .inr (.inr (.inl ⟨.inr rfl, by simp only; omega, rfl, rfl, rfl⟩))⟩
    · exact right_encs l hk.2 x hx
  | .star t, hk, x, hx => by
    unfold okT at hk
    rw [enc] at hx
    rcases List.mem_cons.1 hx with rfl | hx
    · exact ⟨zero_set, .inr (.inr (.inr (.inl ⟨.inl rfl, rfl, rfl, rfl, rfl⟩)))⟩
    · exact right_enc t hk x hx
  | .plus t, hk, x, hx => by
    unfold okT at hk
    rw [enc] at hx
    rcases List.mem_cons.1 hx with rfl | hx
    · exact ⟨zero_set, .inr (.inr (.inr (.inl ⟨.inr (.inl rfl), rfl, rfl, rfl, rfl⟩)))⟩
    · exact right_enc t hk x hx
  | .opt t, hk, x, hx => by
    unfold okT at hk
    rw [enc] at hx
    rcases List.mem_cons.1 hx with rfl | hx
    · exact ⟨zero_set, .inr (.inr (.inr (.inl ⟨.inr (.inr rfl), rfl, rfl, rfl, rfl⟩)))⟩
    · exact right_enc t hk x hx
  | .rep lo hi t, hk, x, hx => by
    unfold okT at hk
    rw [enc] at hx
    rcases List.mem_cons.1 hx with rfl | hx
    · exact ⟨zero_set, .inr (.inr (.inr (.inr ⟨rfl, rfl, rfl, by simp only; omega, by simp only; omega, hk.2.1⟩)))⟩
    · exact right_enc t hk.2.2 x hx
theorem right_encs : ∀ l : List T, okTs l → ∀ x ∈ encs l, isSet x.s ∧ right x
  | [], _, x, hx => by rw [encs] at hx; cases hx
  | t :: l, hk, x, hx => by
    unfold okTs at hk
    rw [encs] at hx
    rcases List.mem_append.1 hx with hx | hx
    · exact right_enc t hk.1 x hx
    · exact right_encs l hk.2 x hx
end
/-- One tree at the beginning. -/
theorem tree_of {N : Nat} {l : List Nd} {k : Nat} (hl : ∀ x ∈ l, isSet x.s ∧ right x) (h : endW N l 1 = some k) : ∃ t r, okT t ∧ l = enc t ++ r ∧ (enc t).length = k := by
  obtain ⟨ts, r, g1, g2, g3, g4⟩ := trees_of N l 1 k (Nat.le_refl _) hl h
  obtain ⟨t, rfl⟩ := List.length_eq_one_iff.1 g2
  unfold okTs at g1
  rw [encs, encs, List.append_nil] at g3 g4
  exact ⟨t, r, g1.1, g3, g4⟩
/-- A list is one right tree just if it is whole and each node is right. -/
theorem check_iff {l : List Nd} (hs : ∀ x ∈ l, isSet x.s) : (endW l.length l 1 = some l.length ∧ ∀ x ∈ l, right x) ↔ ∃ t, okT t ∧ l = enc t := by
  constructor
  · rintro ⟨h1, h2⟩
    obtain ⟨t, r, g1, g2, g3⟩ := tree_of (fun x hx => ⟨hs x hx, h2 x hx⟩) h1
    have : r = [] := by
      have := congrArg List.length g2
      rw [List.length_append] at this
      exact List.eq_nil_of_length_eq_zero (by omega)
    rw [this, List.append_nil] at g2
    exact ⟨t, g1, g2⟩
  · rintro ⟨t, ht, rfl⟩
    refine ⟨?_, fun x hx => (right_enc t ht x hx).2⟩
    have := endW_enc (enc t).length t [] 0 (Nat.le_refl _)
    rw [List.append_nil, if_pos rfl] at this
    exact this
mutual
/-- Which trees match the empty text. -/
def emQ : T → Bool
  | .set _ => false
  | .emp => true
  | .cat l => emA l
  | .alt l => emO l
  | .star _ => true
  | .plus t => emQ t
  | .opt _ => true
  | .rep lo _ t => decide (lo = 0) || emQ t
def emA : List T → Bool
  | [] => true
  | t :: l => emQ t && emA l
def emO : List T → Bool
  | [] => false
  | t :: l => emQ t || emO l
end
end Go.Proofs.YtabcehifdomolaaDoor.Rv
namespace Go.Proofs.YtabcehifdomolaaDoor.Ra
open Go.RowKit Go.Proofs.YtabcehifdomolaaDoor.Vm Go.Proofs.YtabcehifdomolaaDoor.Vo Go.Proofs.YtabcehifdomolaaDoor.Bw Go.Proofs.YtabcehifdomolaaDoor.Na Go.Proofs.YtabcehifdomolaaDoor.Tm Go.Proofs.YtabcehifdomolaaDoor.Ta Go.Proofs.YtabcehifdomolaaDoor.Tb Go.Proofs.YtabcehifdomolaaDoor.Tf Go.Proofs.YtabcehifdomolaaDoor.Rm Go.Proofs.YtabcehifdomolaaDoor.Rv

def in64 (z : Int) : Prop := -9223372036854775808 ≤ z ∧ z ≤ 9223372036854775807
/-- A node's cells lie at a place. -/
structure nd1 (w : World) (b j : Nat) (x : Nd) : Prop where
  s : isSet x.s
  ik : in64 x.k
  ikn : in64 x.n
  il : in64 x.lo
  ih : in64 x.hi
  c0 : w.cell? ⟨b, j, none⟩ = some (.int .i64 x.k)
  c1 : w.cell? ⟨b, j + 1, none⟩ = some (.int .i64 x.n)
  cs : ∀ (i y : Nat), x.s[i]? = some y → w.cell? ⟨b, j + 2 + i, none⟩ = some (.int .u64 (y : Int))
  c6 : w.cell? ⟨b, j + 6, none⟩ = some (.int .i64 x.lo)
  c7 : w.cell? ⟨b, j + 7, none⟩ = some (.int .i64 x.hi)
theorem nd1.below {w w' : World} {b j : Nat} {x : Nd} (h : nd1 w b j x) (hb : b < w.heap.size) (k : Below w.heap.size w w') : nd1 w' b j x := by
  have hc : ∀ i, w'.cell? ⟨b, i, none⟩ = w.cell? ⟨b, i, none⟩ := fun i => k.cell (p := ⟨b, i, none⟩) hb
  exact ⟨h.s, h.ik, h.ikn, h.il, h.ih, (hc _).trans h.c0, (hc _).trans h.c1, fun i y hy => (hc _).trans (h.cs i y hy), (hc _).trans h.c6, (hc _).trans h.c7⟩
/-- A row of nodes that is read. -/
def nds (w : World) (A : Option Addr) (l : List Nd) : Prop := ∀ i x, l[i]? = some x → ∃ b off : Nat, A = some ⟨b, off, none⟩ ∧ b < w.heap.size ∧ nd1 w b (off + i * 8) x
theorem nds.below {w w' : World} {A : Option Addr} {l : List Nd} (h : nds w A l) (k : Below w.heap.size w w') : nds w' A l := fun i x hi => by
  obtain ⟨b, off, rfl, hb, hp⟩ := h i x hi
  exact ⟨b, off, rfl, Nat.lt_of_lt_of_le hb k.size, hp.below hb k⟩
theorem nds_nil (w : World) (A : Option Addr) : nds w A [] := fun i x h => by simp at h
/-- The four words. -/
theorem nd1.four {w : World} {b j : Nat} {x : Nd} (h : nd1 w b j x) : ∃ x0 x1 x2 x3 : Nat, x.s = [x0, x1, x2, x3] ∧ w.cell? ⟨b, j + 2, none⟩ = some (.int .u64 (x0 : Int)) ∧ w.cell? ⟨b, j + 3, none⟩ = some (.int .u64 (x1 : Int)) ∧ w.cell? ⟨b, j + 4, none⟩ = some (.int .u64 (x2 : Int)) ∧ w.cell? ⟨b, j + 5, none⟩ = some (.int .u64 (x3 : Int)) := by
  obtain ⟨x0, x1, x2, x3, e⟩ := four_of h.s
  exact ⟨x0, x1, x2, x3, e, h.cs 0 x0 (by rw [e]; rfl), h.cs 1 x1 (by rw [e]; rfl), h.cs 2 x2 (by rw [e]; rfl), h.cs 3 x3 (by rw [e]; rfl)⟩
theorem cellsN : Tryd.prog.cellsOf 38 = 8 := by kernel_rfl
theorem infoN : (Tryd.prog.info? 38).map (·.size) = some 8 := by kernel_rfl
/-- Where a tree at a place ends; -1: it does not. -/
def endA (i : Int) : Option Nat → Int
  | none => -1
  | some m => i + (m : Int)
def endI (l : List Nd) (i : Int) : Int := if i < 0 then -1 else endA i (endW l.length (l.drop i.toNat) 1)
end Go.Proofs.YtabcehifdomolaaDoor.Ra
namespace Go.Proofs.YtabcehifdomolaaDoor.To
open Go.RowKit Go.PlainAid Go.Proofs.YtabcehifdomolaaDoor.Vm Go.Proofs.YtabcehifdomolaaDoor.Vo Go.Proofs.YtabcehifdomolaaDoor.Bw Go.Proofs.YtabcehifdomolaaDoor.Ba Go.Proofs.YtabcehifdomolaaDoor.Na Go.Proofs.YtabcehifdomolaaDoor.Tm Go.Proofs.YtabcehifdomolaaDoor.Ts Go.Proofs.YtabcehifdomolaaDoor.Ta Go.Proofs.YtabcehifdomolaaDoor.Tb Go.Proofs.YtabcehifdomolaaDoor.Tc Go.Proofs.YtabcehifdomolaaDoor.Td Go.Proofs.YtabcehifdomolaaDoor.Te Go.Proofs.YtabcehifdomolaaDoor.Tf Go.Proofs.YtabcehifdomolaaDoor.Tj Go.Proofs.YtabcehifdomolaaDoor.Tg Go.Proofs.YtabcehifdomolaaDoor.Th Go.Proofs.YtabcehifdomolaaDoor.Ti Go.Proofs.YtabcehifdomolaaDoor.Tn

theorem mask_nl : nl ⟨#[92, 91, 93, 40, 41, 123, 125, 42, 43, 63, 124, 46, 45, 94, 47, 34]⟩ = maskL := by decide
set_option maxHeartbeats 1000000 in
set_option maxRecDepth 100000 in
theorem rMasked_any (c : Nat) (w : World) :
    Calls Tryd.prog 65 #[.int .u8 c] w fun e w' => e = .returned (.bool (decide (c ∈ maskL))) ∧ w = w' := by
  obtain ⟨s, hs⟩ : ∃ s : ByteArray, s = ⟨#[92, 91, 93, 40, 41, 123, 125, 42, 43, 63, 124, 46, 45, 94, 47, 34]⟩ := ⟨_, rfl⟩
  have HNL : Hid (nl s = maskL) := Lib.hid (by rw [hs]; exact mask_nl)
  have hsz : s.size = 16 := by rw [hs]; rfl
  obtain ⟨R, hR⟩ : ∃ R, R = decide (c ∈ maskL) := ⟨_, rfl⟩
  have HR := Lib.hid hR
  rw [← hR]
  have HS := Lib.hid hs
  clear hR hs
  go_enter Tryd.func65, Tryd.ntmps65
  go_wp2
  rw [← HS.out]
  go_loopw [4] (fun i wr => ∃ k : Nat, i = .int .i64 (k : Int) ∧ k ≤ 16 ∧ Hid (c ∉ maskL.take k) ∧ wr = w)
    (fun i _ => 16 - (intOf i).toNat)
  case atStart => exact ⟨0, rfl, by omega, Lib.hid (by simp), rfl⟩
  case round =>
    obtain ⟨k, rfl, hk, HN, rfl⟩ := hrel
    by_cases h8 : k < s.size
    · obtain ⟨x, hx⟩ : ∃ x, (nl s)[k]? = some x := ⟨_, List.getElem?_eq_getElem (by rw [nl_len]; omega)⟩
      obtain ⟨_, b0, l0⟩ := nl_get hx
      rw [HNL.out] at hx
      have hb := get_bt s
      have k0 : (0 : Int) ≤ (k : Int) := by omega
      have k1 : (k : Int) < (s.size : Int) := by omega
      by_cases hxc : x = c
      · subst hxc
        have HE : Hid (R = true) := Lib.hid (by rw [HR.out]; exact decide_eq_true (List.mem_of_getElem? hx))
        clear hx
        go_wp2
        go_ret
        exact ⟨ret_bool HE.out.symm, rfl⟩
      · have HN2 : Hid (c ∉ maskL.take (k + 1)) := Lib.hid (by
          rw [List.take_add_one, hx]
          simp only [Option.toList_some, List.mem_append, List.mem_singleton]
          rintro (h | h)
          · exact HN.out h
          · exact hxc h.symm)
        have hne : ((x : Int) == (c : Int)) = false := by rw [beq_eq_false_iff_ne]; omega
        clear hx hxc
        go_wp2
        go_roundw
        case rel => exact ⟨k + 1, by go_num, by omega, HN2, trivial⟩
        case measure => simp [intOf]; omega
    · have HE : Hid (R = false) := Lib.hid (by
        rw [HR.out]
        have := HN.out
        rw [List.take_of_length_le (by have : maskL.length = 16 := rfl; omega)] at this
        exact decide_eq_false this)
      have hlt : ¬ ((k : Int) < (s.size : Int)) := by omega
      clear hk h8
      go_wp2
      go_ret
      exact ⟨ret_bool HE.out.symm, rfl⟩

theorem nota_size (c : Nat) : (⟨(nota c).toArray⟩ : ByteArray).size ≤ 4 := (nota_len c).2
set_option maxHeartbeats 1000000 in
set_option maxRecDepth 100000 in
theorem rByte_any {c : Nat} (hc : c < 256) (w : World) :
    Calls Tryd.prog 48 #[.int .u8 c] w fun e w' => e = .returned (.string ⟨(nota c).toArray⟩) ∧ Below w.heap.size w w' := by
  by_cases h10 : c = 10
  · subst h10
    have HN : Hid (nota 10 = [92, 110]) := Lib.hid (by decide)
    rw [HN.out]
    go_enter Tryd.func48, Tryd.ntmps48
    go_wp2
    go_ret
    exact ⟨rfl, Below.refl _ _⟩
  by_cases h9 : c = 9
  · subst h9
    have HN : Hid (nota 9 = [92, 116]) := Lib.hid (by decide)
    rw [HN.out]
    go_enter Tryd.func48, Tryd.ntmps48
    go_wp2
    go_ret
    exact ⟨rfl, Below.refl _ _⟩
  by_cases h32 : c = 32
  · subst h32
    have HN : Hid (nota 32 = [92, 115]) := Lib.hid (by decide)
    rw [HN.out]
    go_enter Tryd.func48, Tryd.ntmps48
    go_wp2
    go_ret
    exact ⟨rfl, Below.refl _ _⟩
  have d10 : ((c : Int) == 10) = false := by simp; omega
  have d9 : ((c : Int) == 9) = false := by simp; omega
  have d32 : ((c : Int) == 32) = false := by simp; omega
  have HM := Lib.hid (fun w => rMasked_any c w)
  by_cases hm : c ∈ maskL
  · have HN : Hid (nota c = [92, UInt8.ofNat c]) := Lib.hid (by unfold nota; rw [if_neg h10, if_neg h9, if_neg h32, if_pos hm])
    rw [HN.out]
    rw [decide_eq_true hm] at HM
    have HC : Hid (#[Value.int .u8 (c : Int)] = (Bs [UInt8.ofNat c]).toArray) := Lib.hid (by rw [byte_val hc]; rfl)
    have hcv := ob_string (show ob w.heap.size (w.alloc (.cells #[Value.int .u8 (c : Int)] 5)) (.slice (some ⟨w.heap.size, 0, none⟩) 1 1) [UInt8.ofNat c] by rw [HC.out]; exact ob_lit (c := [UInt8.ofNat c]) (by simp) (Nat.le_refl _))
    clear h10 h9 h32 hm hc
    go_enter Tryd.func48, Tryd.ntmps48
    go_wp2_with (go_at_call 65; refine (HM.out _).mono ?_; rintro e w1 ⟨rfl, rfl⟩)
    go_ret
    exact ⟨ret_str rfl, below_alloc _ _⟩
  · have HD := HM
    rw [decide_eq_false hm] at HM
    clear HD
    by_cases hr : 32 < c ∧ c < 127
    · have HN : Hid (nota c = [UInt8.ofNat c]) := Lib.hid (by unfold nota; rw [if_neg h10, if_neg h9, if_neg h32, if_neg hm, if_pos hr])
      rw [HN.out]
      have HC : Hid (#[Value.int .u8 (c : Int)] = (Bs [UInt8.ofNat c]).toArray) := Lib.hid (by rw [byte_val hc]; rfl)
      have hcv := ob_string (show ob w.heap.size (w.alloc (.cells #[Value.int .u8 (c : Int)] 5)) (.slice (some ⟨w.heap.size, 0, none⟩) 1 1) [UInt8.ofNat c] by rw [HC.out]; exact ob_lit (c := [UInt8.ofNat c]) (by simp) (Nat.le_refl _))
      have r1 : (32 : Int) < (c : Int) := by omega
      have r2 : (c : Int) < 127 := by omega
      clear h10 h9 h32 hm hc hr
      go_enter Tryd.func48, Tryd.ntmps48
      go_wp2_with (go_at_call 65; refine (HM.out _).mono ?_; rintro e w1 ⟨rfl, rfl⟩)
      go_ret
      exact ⟨ret_str rfl, below_alloc _ _⟩
    · have HN : Hid (nota c = [92, 120, hexd (c / 16), hexd (c % 16)]) := Lib.hid (by unfold nota; rw [if_neg h10, if_neg h9, if_neg h32, if_neg hm, if_neg hr])
      rw [HN.out]
      obtain ⟨q, hq⟩ : ∃ q, q = c / 16 := ⟨_, rfl⟩
      obtain ⟨r, hrr⟩ : ∃ r, r = c % 16 := ⟨_, rfl⟩
      have hq16 : q < 16 := by omega
      have hr16 : r < 16 := by omega
      have e1 : (c : Int) / 16 = (q : Int) := by omega
      have e2 : (c : Int) % 16 = (r : Int) := by omega
      have e2' : (c : Int).tmod 16 = (r : Int) := by rw [Int.tmod_eq_emod_of_nonneg (by omega)]; exact e2
      have f1 : (q : Int) < 16 := by omega
      have f2 : (r : Int) < 16 := by omega
      rw [← hq, ← hrr]
      have x1 : bt ⟨#[48, 49, 50, 51, 52, 53, 54, 55, 56, 57, 97, 98, 99, 100, 101, 102]⟩ q = ((hexd q).toNat : Int) := bt_hex q hq16
      have x2 : bt ⟨#[48, 49, 50, 51, 52, 53, 54, 55, 56, 57, 97, 98, 99, 100, 101, 102]⟩ r = ((hexd r).toNat : Int) := bt_hex r hr16
      have y1 : IntKind.u8.wrap (q : Int) = (q : Int) := by rw [IntKind.wrap_u8']; omega
      have y2 : IntKind.u8.wrap (r : Int) = (r : Int) := by rw [IntKind.wrap_u8']; omega
      generalize hexd q = u1 at *
      generalize hexd r = u2 at *
      have hb := get_bt ⟨#[48, 49, 50, 51, 52, 53, 54, 55, 56, 57, 97, 98, 99, 100, 101, 102]⟩
      have hcv0 := ob_string (show ob w.heap.size (w.alloc (.cells #[Value.int .u8 (u1.toNat : Int), Value.int .u8 (u2.toNat : Int)] 5)) (.slice (some ⟨w.heap.size, 0, none⟩) 2 2) [u1, u2] from ob_lit (c := [u1, u2]) (by simp) (Nat.le_refl _))
      have hcv : (convert 59 9 (.slice (some ⟨w.heap.size, 0, none⟩) 2 2)).run Tryd.prog (w.alloc (.cells #[Value.int .u8 (u1.toNat : Int), Value.int .u8 (u2.toNat : Int)] 5)).drew = .ok (.string ⟨#[u1, u2]⟩) (w.alloc (.cells #[Value.int .u8 (u1.toNat : Int), Value.int .u8 (u2.toNat : Int)] 5)).drew :=
        ob_string (show ob w.heap.size (w.alloc (.cells #[Value.int .u8 (u1.toNat : Int), Value.int .u8 (u2.toNat : Int)] 5)).drew (.slice (some ⟨w.heap.size, 0, none⟩) 2 2) [u1, u2] from ob_lit (w := w) (c := [u1, u2]) (by simp) (Nat.le_refl _))
      have HB : Hid (Below w.heap.size w (w.alloc (.cells #[Value.int .u8 (u1.toNat : Int), Value.int .u8 (u2.toNat : Int)] 5)).drew) := Lib.hid (below_drew (below_alloc _ _))
      have h3 : c < 32 ∨ 126 < c := by omega
      clear hcv0 hr h10 h9 h32 hm hc hq hrr
      rcases h3 with h3 | h3
      · have h3' : ¬ ((32 : Int) < (c : Int)) := by omega
        clear h3
        go_enter Tryd.func48, Tryd.ntmps48
        go_wp2_with (go_at_call 65; refine (HM.out _).mono ?_; rintro e w1 ⟨rfl, rfl⟩)
        go_region
        all_goals go_wp2
        all_goals go_ret
        all_goals exact ⟨ret_str rfl, HB.out⟩
      · have h3' : (32 : Int) < (c : Int) := by omega
        have h4' : ¬ ((c : Int) < 127) := by omega
        clear h3
        go_enter Tryd.func48, Tryd.ntmps48
        go_wp2_with (go_at_call 65; refine (HM.out _).mono ?_; rintro e w1 ⟨rfl, rfl⟩)
        go_region
        all_goals go_wp2
        all_goals go_ret
        all_goals exact ⟨ret_str rfl, HB.out⟩
end Go.Proofs.YtabcehifdomolaaDoor.To
namespace Go.Proofs.YtabcehifdomolaaDoor.Rw
open Go.RowKit Go.PlainAid Go.Proofs.YtabcehifdomolaaDoor.Vm Go.Proofs.YtabcehifdomolaaDoor.Vo Go.Proofs.YtabcehifdomolaaDoor.Bw Go.Proofs.YtabcehifdomolaaDoor.Ba Go.Proofs.YtabcehifdomolaaDoor.Na Go.Proofs.YtabcehifdomolaaDoor.Tm Go.Proofs.YtabcehifdomolaaDoor.Ts Go.Proofs.YtabcehifdomolaaDoor.Ta Go.Proofs.YtabcehifdomolaaDoor.Tb Go.Proofs.YtabcehifdomolaaDoor.Td Go.Proofs.YtabcehifdomolaaDoor.Te Go.Proofs.YtabcehifdomolaaDoor.Tf Go.Proofs.YtabcehifdomolaaDoor.Tg Go.Proofs.YtabcehifdomolaaDoor.Th Go.Proofs.YtabcehifdomolaaDoor.To Go.Proofs.YtabcehifdomolaaDoor.Rt

set_option maxRecDepth 100000 in
theorem digit_one {n : Nat} (hn : n < 10) (w : World) :
    Calls Tryd.prog 32 #[.int .i64 (n : Int)] w fun e w' => e = .returned (.string ⟨([UInt8.ofNat (48 + n)] : List UInt8).toArray⟩) ∧ Below w.heap.size w w' := by
  obtain ⟨c, hc⟩ : ∃ c, c = 48 + n := ⟨_, rfl⟩
  rw [← hc]
  have hc2 : c < 256 := by omega
  have h1 : (48 + (n : Int)) % 256 = (c : Int) := by omega
  have h2 : (n : Int) < 10 := by omega
  have h3 : wrap64 (48 + (n : Int)) = 48 + (n : Int) := by rw [wrap64_in (by omega) (by omega)]
  have HC : Hid (#[Value.int .u8 (48 + (n : Int))] = (Bs [UInt8.ofNat c]).toArray) := Lib.hid (by rw [show 48 + (n : Int) = (c : Int) by omega, byte_val hc2]; rfl)
  have hcv := ob_string (show ob w.heap.size (w.alloc (.cells #[Value.int .u8 (48 + (n : Int))] 5)) (.slice (some ⟨w.heap.size, 0, none⟩) 1 1) [UInt8.ofNat c] by rw [HC.out]; exact ob_lit (c := [UInt8.ofNat c]) (by simp) (Nat.le_refl _))
  clear hc hn hc2
  go_enter Tryd.func32, Tryd.ntmps32
  go_wp2
  go_ret
  exact ⟨ret_str rfl, below_alloc _ _⟩
end Go.Proofs.YtabcehifdomolaaDoor.Rw
namespace Go.Proofs.YtabcehifdomolaaDoor.Tp
open Go.RowKit Go.PlainAid Go.Proofs.YtabcehifdomolaaDoor.Vm Go.Proofs.YtabcehifdomolaaDoor.Vo Go.Proofs.YtabcehifdomolaaDoor.Bw Go.Proofs.YtabcehifdomolaaDoor.Ba Go.Proofs.YtabcehifdomolaaDoor.Na Go.Proofs.YtabcehifdomolaaDoor.Tm Go.Proofs.YtabcehifdomolaaDoor.Ts Go.Proofs.YtabcehifdomolaaDoor.Ta Go.Proofs.YtabcehifdomolaaDoor.Tb Go.Proofs.YtabcehifdomolaaDoor.Tc Go.Proofs.YtabcehifdomolaaDoor.Td Go.Proofs.YtabcehifdomolaaDoor.Te Go.Proofs.YtabcehifdomolaaDoor.Tf Go.Proofs.YtabcehifdomolaaDoor.Tj Go.Proofs.YtabcehifdomolaaDoor.Tg Go.Proofs.YtabcehifdomolaaDoor.Th Go.Proofs.YtabcehifdomolaaDoor.Ti Go.Proofs.YtabcehifdomolaaDoor.Tn Go.Proofs.YtabcehifdomolaaDoor.To

theorem sz_of (s : ByteArray) : s.data.toList.length = s.size := Array.length_toList
set_option maxHeartbeats 2000000 in
set_option maxRecDepth 100000 in
theorem rShow_one {a : List Nat} (ha : isSet a) (hn : (byt a).length = 1) (w : World) :
    Calls Tryd.prog 31 #[.agg (sv a)] w fun e w' => e = .returned (.string ⟨(shwQ a (notL a)).toArray⟩) ∧ Below w.heap.size w w' := by
  have HX : Hid (Blk (w.alloc (.cells (sv a) 36)) w.heap.size 36 (sv a)) := Lib.hid (Blk.fresh w _ _)
  have HW : Hid (Below w.heap.size w (w.alloc (.cells (sv a) 36))) := Lib.hid (below_alloc _ _)
  have HS : Hid ((w.alloc (.cells (sv a) 36)).heap.size = w.heap.size + 1) := Lib.hid (size_alloc _ _)
  have H4 : Hid ((sv a).size = 4) := Lib.hid (sv4 ha)
  obtain ⟨R, hR⟩ : ∃ R, R = shwQ a (notL a) := ⟨_, rfl⟩
  rw [← hR]
  have HBy := Lib.hid (fun w => rBytes_any ha w)
  obtain ⟨sa, hsa⟩ : ∃ s : ByteArray, s = ⟨(bts a).toArray⟩ := ⟨_, rfl⟩
  rw [← hsa] at HBy
  have hna : nl sa = byt a := by rw [hsa, bts_nl]
  have za : sa.size ≤ 256 := by rw [hsa]; exact bts_size a
  have h1 : sa.size = 1 := by rw [← nl_len, hna]; exact hn
  obtain ⟨x, hx⟩ : ∃ x, byt a = [x] := List.length_eq_one_iff.1 (by rw [← hna, nl_len]; exact h1)
  have hx256 : x < 256 := (mem_byt.1 (by rw [hx]; simp : x ∈ byt a)).1
  have HR : Hid (R = nota x) := Lib.hid (by rw [hR, shw_one hx])
  have hb0 : bt sa 0 = (x : Int) := (nl_get (s := sa) (k := 0) (by rw [hna, hx]; rfl)).2.1
  have hgb := get_bt sa
  have z0 : (0 : Int) < (sa.size : Int) := by omega
  have h1' : (sa.size : Int) = 1 := by omega
  clear hR h1 hx hna hsa za
  go_enter Tryd.func31, Tryd.ntmps31
  go_wp2_with (first | refine wpList_load_row rfl 36 _ rfl w.heap.size rfl _ _ _ _ HX.out Tryd.underlying36 rfl (fit H4.out) ?_ | (go_at_call 47; refine (HBy.out _).mono ?_; rintro e w1 ⟨rfl, k1⟩; have K1 := Lib.hid k1; clear k1) | (go_at_call 48; refine (rByte_any hx256 _).mono ?_; rintro e w2 ⟨rfl, k2⟩; have K2 := Lib.hid k2; clear k2))
  go_ret
  exact ⟨ret_str (by rw [HR.out]), HW.out.trans ((grows K1.out K2.out).mono HW.out.size)⟩

set_option maxHeartbeats 2000000 in
set_option maxRecDepth 100000 in
theorem rShow_low {a : List Nat} (ha : isSet a) (hn1 : (byt a).length ≠ 1) (hn2 : ¬ 128 < (byt a).length) (w : World) :
    Calls Tryd.prog 31 #[.agg (sv a)] w fun e w' => e = .returned (.string ⟨(shwQ a (notL a)).toArray⟩) ∧ Below w.heap.size w w' := by
  have HX : Hid (Blk (w.alloc (.cells (sv a) 36)) w.heap.size 36 (sv a)) := Lib.hid (Blk.fresh w _ _)
  have HW : Hid (Below w.heap.size w (w.alloc (.cells (sv a) 36))) := Lib.hid (below_alloc _ _)
  have HS : Hid ((w.alloc (.cells (sv a) 36)).heap.size = w.heap.size + 1) := Lib.hid (size_alloc _ _)
  have H4 : Hid ((sv a).size = 4) := Lib.hid (sv4 ha)
  obtain ⟨R, hR⟩ : ∃ R, R = shwQ a (notL a) := ⟨_, rfl⟩
  rw [← hR]
  have HBy := Lib.hid (fun w => rBytes_any ha w)
  obtain ⟨sa, hsa⟩ : ∃ s : ByteArray, s = ⟨(bts a).toArray⟩ := ⟨_, rfl⟩
  rw [← hsa] at HBy
  have hna : nl sa = byt a := by rw [hsa, bts_nl]
  have za : sa.size ≤ 256 := by rw [hsa]; exact bts_size a
  have h1 : sa.size ≠ 1 := by rw [← nl_len, hna]; exact hn1
  have h2 : ¬ 128 < sa.size := by rw [← nl_len, hna]; exact hn2
  have h1' : ((sa.size : Int) == 1) = false := by rw [beq_eq_false_iff_ne]; omega
  have HNL : Hid (nl sa = byt a) := Lib.hid hna
  have HA : Hid (asc (nl sa)) := Lib.hid (by rw [hna]; exact asc_byt a)
  have HR : Hid (R = [91] ++ lstQ (nl sa) ++ [93]) := Lib.hid (by
    rw [hR, shw_low (by rw [← hna, nl_len]; exact h1) (by rw [← hna, nl_len]; exact h2), hna]; simp)
  have HLB : Hid ((lstQ (nl sa)).length ≤ 1024) := Lib.hid (by have := lstQ_le (nl sa); rw [nl_len] at this; omega)
  have HZA := Lib.hid za
  have h2' : ¬ (128 : Int) < (sa.size : Int) := by omega
  obtain ⟨M, hM⟩ : ∃ M, M = lstQ (nl sa) := ⟨_, rfl⟩
  have HM := Lib.hid hM
  rw [← hM] at HR HLB
  clear hR h1 h2 hna hsa hM
  go_enter Tryd.func31, Tryd.ntmps31
  go_wp2_with (first | refine wpList_load_row rfl 36 _ rfl w.heap.size rfl _ _ _ _ HX.out Tryd.underlying36 rfl (fit H4.out) ?_ | (go_at_call 47; refine (HBy.out _).mono ?_; rintro e w1 ⟨rfl, k1⟩; have K1 := Lib.hid k1; clear k1))
  clear h1' h2'
  go_loopw [5, 4] (fun i t wr => ∃ (k : Nat) (P : List UInt8) (S : ByteArray), i = .int .i64 (k : Int) ∧ t = .string S ∧ k ≤ sa.size ∧ S.size ≤ 1026 ∧ Hid (S.data.toList = [91] ++ P) ∧ Hid (M = P ++ lstQ ((nl sa).drop k)) ∧ Hid (Below w1.heap.size w1 wr))
    (fun i _ _ => sa.size - (intOf i).toNat)
  case atStart => exact ⟨0, [], _, rfl, rfl, by omega, by decide, Lib.hid rfl, Lib.hid (by rw [HM.out]; rfl), Lib.hid (Below.refl _ _)⟩
  case round =>
    obtain ⟨k, P, S, rfl, rfl, hk, hS, HSL, HP, HB⟩ := hrel
    by_cases h8 : k < sa.size
    · obtain ⟨x, hx⟩ : ∃ x, (nl sa)[k]? = some x := ⟨_, List.getElem?_eq_getElem (by rw [nl_len]; omega)⟩
      have hd := lstQ_at hx
      obtain ⟨r, hr⟩ : ∃ r, r = (nl sa).drop (k + 1) := ⟨_, rfl⟩
      rw [← hr] at hd
      obtain ⟨_, b0, x256⟩ := nl_get hx
      have HD := Lib.hid hd
      have HRR := Lib.hid hr
      have hxl : (x :: r).length = sa.size - k := by rw [← hd, List.length_drop, nl_len]
      have HXL := Lib.hid hxl
      have hlt : (k : Int) < (sa.size : Int) := by omega
      have H8 := Lib.hid h8
      have HASC : Hid (asc (x :: r)) := Lib.hid (by rw [← hd]; exact asc_drop HA.out k)
      clear hd hr hx h8 hxl
      go_wp2
      go_loopw [6] (fun n wr => ∃ q : Nat, n = .int .i64 (q : Int) ∧ 1 ≤ q ∧ k + q ≤ sa.size ∧ Hid (∀ j, j < q → (x :: r)[j]? = some (x + j)) ∧ Hid (Below w1.heap.size w1 wr))
        (fun n _ => sa.size - (intOf n).toNat)
      case atStart =>
        have h0 : ∀ j, j < 1 → (x :: r)[j]? = some (x + j) := fun j hj => by
          have e : j = 0 := by omega
          subst e; rfl
        exact ⟨1, rfl, by omega, by have := H8.out; omega, Lib.hid h0, HB⟩
      case round =>
        obtain ⟨q, rfl, hq1, hq, HQ, HB⟩ := hrel
        obtain ⟨p, hp⟩ : ∃ p, p = k + q := ⟨_, rfl⟩
        have HPQ := Lib.hid hp
        have e1 : IntKind.i64.wrap ((k : Int) + (q : Int)) = (p : Int) := by rw [IntKind.wrap_i64]; omega
        have p0 : (0 : Int) ≤ (p : Int) := by omega
        have k0 : (0 : Int) ≤ (k : Int) := by omega
        have hb := get_bt sa
        by_cases h9 : p < sa.size
        · have p1 : (p : Int) < (sa.size : Int) := by omega
          obtain ⟨y, hy⟩ : ∃ y, (x :: r)[q]? = some y := ⟨_, List.getElem?_eq_getElem (by rw [HXL.out]; omega)⟩
          have hyp : (nl sa)[p]? = some y := by rw [hp, ← List.getElem?_drop, HD.out]; exact hy
          obtain ⟨_, b1, z256⟩ := nl_get hyp
          have HYP := Lib.hid hyp
          have H9 := Lib.hid h9
          by_cases hxy : y = x + q
          · have hxb : ((y : Int) == (x : Int) + (q : Int)) = true := by rw [beq_iff_eq]; omega
            have HR2 : Hid (∀ j, j < q + 1 → (x :: r)[j]? = some (x + j)) := Lib.hid (fun j hj => by
              by_cases e : j = q
              · subst e; rw [hy, hxy]
              · exact HQ.out j (by omega))
            clear hp hy hyp hxy h9
            go_wp2_with fail
            go_quiet (fail)
            go_wp2
            go_roundw
            case rel => exact ⟨q + 1, by go_num, by omega, by have := H9.out; have := HPQ.out; omega, HR2, Lib.hid (grows HB.out (below_draws _ _))⟩
            case measure => have := H9.out; have := HPQ.out; simp [intOf]; omega
          · have hxb : ((y : Int) == (x : Int) + (q : Int)) = false := by rw [beq_eq_false_iff_ne]; omega
            have HE : Hid (runF x r + 1 = q) := Lib.hid (by
              obtain ⟨j, rfl⟩ : ∃ j, q = j + 1 := ⟨q - 1, by omega⟩
              congr 1
              refine runF_is (fun i hi => HQ.out i (by omega)) (fun e => hxy ?_)
              rw [hy] at e
              injection e with e
              all_goals omega)
            clear hp hy hyp hxy h9
            go_wp2_with fail
            go_quiet (fail)
            have HQ1 := Lib.hid hq1
            by_cases h3 : 3 ≤ q
            · obtain ⟨m, hm⟩ : ∃ m, p = m + 1 := ⟨p - 1, by have := HPQ.out; omega⟩
              obtain ⟨j, hj⟩ : ∃ j, q = j + 1 := ⟨q - 1, by omega⟩
              have hlast : (nl sa)[m]? = some (x + j) := by
                have h1 := HQ.out j (by omega)
                rw [← HD.out, List.getElem?_drop] at h1
                rw [show m = k + j by have := HPQ.out; omega]; exact h1
              obtain ⟨m1, b2, y256⟩ := nl_get hlast
              obtain ⟨y, hy⟩ : ∃ y, y = x + j := ⟨_, rfl⟩
              rw [← hy] at b2 y256
              have HY : Hid (y = x + runF x r) := Lib.hid (by have := HE.out; omega)
              have H2 : Hid (2 ≤ runF x r) := Lib.hid (by have := HE.out; omega)
              obtain ⟨t0, ht0⟩ : ∃ s : ByteArray, s = ⟨(nota x).toArray⟩ := ⟨_, rfl⟩
              obtain ⟨t1, ht1⟩ : ∃ s : ByteArray, s = ⟨(nota y).toArray⟩ := ⟨_, rfl⟩
              have C0 := Lib.hid (fun w => rByte_any x256 w)
              have C1 := Lib.hid (fun w => rByte_any y256 w)
              rw [← ht0] at C0
              rw [← ht1] at C1
              have z0 : t0.size ≤ 4 := by rw [ht0]; exact nota_size x
              have z1 : t1.size ≤ 4 := by rw [ht1]; exact nota_size y
              have g1 : ¬ 9223372036854775807 < S.size + t0.size := by omega
              have g2 : ¬ 9223372036854775807 < (S ++ t0).size + (⟨#[45]⟩ : ByteArray).size := by rw [ByteArray.size_append]; show ¬ _ < _ + 1; omega
              have g3 : ¬ 9223372036854775807 < (S ++ t0 ++ ⟨#[45]⟩).size + t1.size := by rw [ByteArray.size_append, ByteArray.size_append]; show ¬ _ < _ + 1 + _; omega
              have HT : Hid ((S ++ t0 ++ ⟨#[45]⟩ ++ t1).data.toList = [91] ++ (P ++ (nota x ++ 45 :: nota y))) := Lib.hid (by
                simp only [ByteArray.data_append, Array.toList_append, HSL.out, ht0, ht1]
                simp)
              have HP2 : Hid (M = (P ++ (nota x ++ 45 :: nota y)) ++ lstQ ((nl sa).drop p)) := Lib.hid (by
                have e := HP.out
                have hdp : ∀ f, p = k + 1 + f → r.drop f = (nl sa).drop p := fun f hf => by rw [HRR.out, List.drop_drop, hf]
                rw [HD.out, lstQ_run H2.out, ← HY.out, hdp _ (by have := HE.out; have := HPQ.out; omega)] at e
                rw [e]; simp)
              have HSZ : Hid ((S ++ t0 ++ ⟨#[45]⟩ ++ t1).size ≤ 1026) := Lib.hid (by
                have h1 : (S ++ t0 ++ ⟨#[45]⟩ ++ t1).size = ((S ++ t0 ++ ⟨#[45]⟩ ++ t1).data.toList).length := (sz_of _).symm
                have h2 := HLB.out
                rw [HP2.out, List.length_append] at h2
                rw [h1, HT.out, List.length_append]
                have : ([91] : List UInt8).length ≤ 2 := by decide
                omega)
              have e3 : IntKind.i64.wrap ((p : Int) - 1) = (m : Int) := by rw [IntKind.wrap_i64]; omega
              have m0 : (0 : Int) ≤ (m : Int) := by omega
              have m1' : (m : Int) < (sa.size : Int) := by omega
              have h3' : (3 : Int) ≤ (q : Int) := by omega
              clear hm hj hlast hy ht0 ht1 h3
              go_wp2_with fail
              have KB := Lib.hid (show Below w1.heap.size w1 (wr.drewN nq).drew from below_drew (grows HB.out (below_draws _ nq)))
              go_region_with (first | (go_at_call 48; (with_reducible refine (C0.out _).mono ?_); rintro e w2 ⟨rfl, k2⟩; have KB := Lib.hid (grows KB.out k2); clear k2) | (go_at_call 48; (with_reducible refine (C1.out _).mono ?_); rintro e w2 ⟨rfl, k2⟩; have KB := Lib.hid (grows KB.out k2); clear k2))
              all_goals go_wp2
              all_goals go_roundw
              all_goals first | exact ⟨p, P ++ (nota x ++ 45 :: nota y), _, by go_num, rfl, by have := HPQ.out; omega, HSZ.out, HT, HP2, KB⟩ | (have := HPQ.out; have := HQ1.out; simp [intOf]; omega)
            · have HO : Hid (¬ 2 ≤ runF x r) := Lib.hid (by have := HE.out; omega)
              obtain ⟨t0, ht0⟩ : ∃ s : ByteArray, s = ⟨(nota x).toArray⟩ := ⟨_, rfl⟩
              have C0 := Lib.hid (fun w => rByte_any x256 w)
              rw [← ht0] at C0
              have z0 : t0.size ≤ 4 := by rw [ht0]; exact nota_size x
              have g1 : ¬ 9223372036854775807 < S.size + t0.size := by omega
              have HT : Hid ((S ++ t0).data.toList = [91] ++ (P ++ nota x)) := Lib.hid (by
                simp only [ByteArray.data_append, Array.toList_append, HSL.out, ht0]
                simp)
              have HP2 : Hid (M = (P ++ nota x) ++ lstQ ((nl sa).drop (k + 1))) := Lib.hid (by
                have e := HP.out
                rw [HD.out, lstQ_one HO.out, HRR.out] at e
                rw [e]; simp)
              have HSZ : Hid ((S ++ t0).size ≤ 1026) := Lib.hid (by
                have h1 : (S ++ t0).size = ((S ++ t0).data.toList).length := (sz_of _).symm
                have h2 := HLB.out
                rw [HP2.out, List.length_append] at h2
                rw [h1, HT.out, List.length_append]
                have : ([91] : List UInt8).length ≤ 2 := by decide
                omega)
              have h3' : ¬ (3 : Int) ≤ (q : Int) := by omega
              clear ht0 h3
              go_wp2_with (go_at_call 48; refine (C0.out _).mono ?_; rintro e w2 ⟨rfl, k2⟩; have K2 := Lib.hid k2; clear k2)
              go_roundw
              case rel => exact ⟨k + 1, P ++ nota x, _, by go_num, rfl, by have := H8.out; omega, HSZ.out, HT, HP2, Lib.hid (grows (grows HB.out (below_draws _ _)) K2.out)⟩
              case measure => have := H8.out; simp [intOf]; omega
        · have HE : Hid (runF x r + 1 = q) := Lib.hid (by
            obtain ⟨j, rfl⟩ : ∃ j, q = j + 1 := ⟨q - 1, by omega⟩
            congr 1
            refine runF_is (fun i hi => HQ.out i (by omega)) (fun e => ?_)
            rw [List.getElem?_eq_none (by rw [HXL.out]; omega)] at e
            cases e)
          have hnb : decide ((p : Int) < (sa.size : Int)) = false := by simp; omega
          have hnbN : decide (p < sa.size) = false := by simp; omega
          clear hp h9
          go_wp2_with fail
          go_quiet (fail)
          have HQ1 := Lib.hid hq1
          by_cases h3 : 3 ≤ q
          · obtain ⟨m, hm⟩ : ∃ m, p = m + 1 := ⟨p - 1, by have := HPQ.out; omega⟩
            obtain ⟨j, hj⟩ : ∃ j, q = j + 1 := ⟨q - 1, by omega⟩
            have hlast : (nl sa)[m]? = some (x + j) := by
              have h1 := HQ.out j (by omega)
              rw [← HD.out, List.getElem?_drop] at h1
              rw [show m = k + j by have := HPQ.out; omega]; exact h1
            obtain ⟨m1, b2, y256⟩ := nl_get hlast
            obtain ⟨y, hy⟩ : ∃ y, y = x + j := ⟨_, rfl⟩
            rw [← hy] at b2 y256
            have HY : Hid (y = x + runF x r) := Lib.hid (by have := HE.out; omega)
            have H2 : Hid (2 ≤ runF x r) := Lib.hid (by have := HE.out; omega)
            obtain ⟨t0, ht0⟩ : ∃ s : ByteArray, s = ⟨(nota x).toArray⟩ := ⟨_, rfl⟩
            obtain ⟨t1, ht1⟩ : ∃ s : ByteArray, s = ⟨(nota y).toArray⟩ := ⟨_, rfl⟩
            have C0 := Lib.hid (fun w => rByte_any x256 w)
            have C1 := Lib.hid (fun w => rByte_any y256 w)
            rw [← ht0] at C0
            rw [← ht1] at C1
            have z0 : t0.size ≤ 4 := by rw [ht0]; exact nota_size x
            have z1 : t1.size ≤ 4 := by rw [ht1]; exact nota_size y
            have g1 : ¬ 9223372036854775807 < S.size + t0.size := by omega
            have g2 : ¬ 9223372036854775807 < (S ++ t0).size + (⟨#[45]⟩ : ByteArray).size := by rw [ByteArray.size_append]; show ¬ _ < _ + 1; omega
            have g3 : ¬ 9223372036854775807 < (S ++ t0 ++ ⟨#[45]⟩).size + t1.size := by rw [ByteArray.size_append, ByteArray.size_append]; show ¬ _ < _ + 1 + _; omega
            have HT : Hid ((S ++ t0 ++ ⟨#[45]⟩ ++ t1).data.toList = [91] ++ (P ++ (nota x ++ 45 :: nota y))) := Lib.hid (by
              simp only [ByteArray.data_append, Array.toList_append, HSL.out, ht0, ht1]
              simp)
            have HP2 : Hid (M = (P ++ (nota x ++ 45 :: nota y)) ++ lstQ ((nl sa).drop p)) := Lib.hid (by
              have e := HP.out
              have hdp : ∀ f, p = k + 1 + f → r.drop f = (nl sa).drop p := fun f hf => by rw [HRR.out, List.drop_drop, hf]
              rw [HD.out, lstQ_run H2.out, ← HY.out, hdp _ (by have := HE.out; have := HPQ.out; omega)] at e
              rw [e]; simp)
            have HSZ : Hid ((S ++ t0 ++ ⟨#[45]⟩ ++ t1).size ≤ 1026) := Lib.hid (by
              have h1 : (S ++ t0 ++ ⟨#[45]⟩ ++ t1).size = ((S ++ t0 ++ ⟨#[45]⟩ ++ t1).data.toList).length := (sz_of _).symm
              have h2 := HLB.out
              rw [HP2.out, List.length_append] at h2
              rw [h1, HT.out, List.length_append]
              have : ([91] : List UInt8).length ≤ 2 := by decide
              omega)
            have e3 : IntKind.i64.wrap ((p : Int) - 1) = (m : Int) := by rw [IntKind.wrap_i64]; omega
            have m0 : (0 : Int) ≤ (m : Int) := by omega
            have m1' : (m : Int) < (sa.size : Int) := by omega
            have h3' : (3 : Int) ≤ (q : Int) := by omega
            clear hm hj hlast hy ht0 ht1 h3
            go_wp2_with fail
            have KB := Lib.hid (show Below w1.heap.size w1 (wr.drewN nq).drew from below_drew (grows HB.out (below_draws _ nq)))
            go_region_with (first | (go_at_call 48; (with_reducible refine (C0.out _).mono ?_); rintro e w2 ⟨rfl, k2⟩; have KB := Lib.hid (grows KB.out k2); clear k2) | (go_at_call 48; (with_reducible refine (C1.out _).mono ?_); rintro e w2 ⟨rfl, k2⟩; have KB := Lib.hid (grows KB.out k2); clear k2))
            all_goals go_wp2
            all_goals go_roundw
            all_goals first | exact ⟨p, P ++ (nota x ++ 45 :: nota y), _, by go_num, rfl, by have := HPQ.out; omega, HSZ.out, HT, HP2, KB⟩ | (have := HPQ.out; have := HQ1.out; simp [intOf]; omega)
          · have HO : Hid (¬ 2 ≤ runF x r) := Lib.hid (by have := HE.out; omega)
            obtain ⟨t0, ht0⟩ : ∃ s : ByteArray, s = ⟨(nota x).toArray⟩ := ⟨_, rfl⟩
            have C0 := Lib.hid (fun w => rByte_any x256 w)
            rw [← ht0] at C0
            have z0 : t0.size ≤ 4 := by rw [ht0]; exact nota_size x
            have g1 : ¬ 9223372036854775807 < S.size + t0.size := by omega
            have HT : Hid ((S ++ t0).data.toList = [91] ++ (P ++ nota x)) := Lib.hid (by
              simp only [ByteArray.data_append, Array.toList_append, HSL.out, ht0]
              simp)
            have HP2 : Hid (M = (P ++ nota x) ++ lstQ ((nl sa).drop (k + 1))) := Lib.hid (by
              have e := HP.out
              rw [HD.out, lstQ_one HO.out, HRR.out] at e
              rw [e]; simp)
            have HSZ : Hid ((S ++ t0).size ≤ 1026) := Lib.hid (by
              have h1 : (S ++ t0).size = ((S ++ t0).data.toList).length := (sz_of _).symm
              have h2 := HLB.out
              rw [HP2.out, List.length_append] at h2
              rw [h1, HT.out, List.length_append]
              have : ([91] : List UInt8).length ≤ 2 := by decide
              omega)
            have h3' : ¬ (3 : Int) ≤ (q : Int) := by omega
            clear ht0 h3
            go_wp2_with (go_at_call 48; refine (C0.out _).mono ?_; rintro e w2 ⟨rfl, k2⟩; have K2 := Lib.hid k2; clear k2)
            go_roundw
            case rel => exact ⟨k + 1, P ++ nota x, _, by go_num, rfl, by have := H8.out; omega, HSZ.out, HT, HP2, Lib.hid (grows (grows HB.out (below_draws _ _)) K2.out)⟩
            case measure => have := H8.out; simp [intOf]; omega
    · have HK : Hid (k = sa.size) := Lib.hid (by omega)
      have hlt : ¬ ((k : Int) < (sa.size : Int)) := by omega
      have g1 : ¬ 9223372036854775807 < S.size + (⟨#[93]⟩ : ByteArray).size := by show ¬ _ < _ + 1; omega
      have g1' : ¬ 9223372036854775807 < S.size + 1 := by omega
      have HEND : Hid ((⟨R.toArray⟩ : ByteArray) = S ++ ⟨#[93]⟩) := Lib.hid (by
        have e1 : P = M := by
          have := HP.out
          rw [HK.out, List.drop_of_length_le (by rw [nl_len]; exact Nat.le_refl _), lstQ_nil, List.append_nil] at this
          exact this.symm
        apply ByteArray.ext
        rw [ByteArray.data_append]
        apply Array.ext'
        rw [Array.toList_append, HSL.out, e1, HR.out])
      clear hk h8
      go_wp2
      go_ret
      exact ⟨ret_str HEND.out.symm, HW.out.trans ((grows K1.out HB.out).mono HW.out.size)⟩
end Go.Proofs.YtabcehifdomolaaDoor.Tp
