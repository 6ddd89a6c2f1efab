/-
  The reference's Of, And, Or.
  Two sets compared.
  Conditions: as each theorem says.
-/
import Derived.Test.YthjelilmlbbalaaPaf
import Derived.Deep.RegionWith
import Derived.Deep.RegionHeld3
import Derived.Deep.RegionLaw
import Derived.BigQuiet
import Derived.Laws.StructEq
import Derived.Laws.Tables
import Derived.Laws.Cover2
import Derived.KernelRfl
namespace Go.Proofs.Ythjelilmlbbalaa.Tf
open Go.RowKit Go.Proofs.Ythjelilmlbbalaa.Vm Go.Proofs.Ythjelilmlbbalaa.Vo Go.Proofs.Ythjelilmlbbalaa.Bw Go.Proofs.Ythjelilmlbbalaa.Na Go.Proofs.Ythjelilmlbbalaa.Tm Go.Proofs.Ythjelilmlbbalaa.Ta Go.Proofs.Ythjelilmlbbalaa.Tb Go.Proofs.Ythjelilmlbbalaa.Tc Go.Proofs.Ythjelilmlbbalaa.Td Go.Proofs.Ythjelilmlbbalaa.Te

theorem sv_four (x0 x1 x2 x3 : Nat) : sv [x0, x1, x2, x3] = #[.int .u64 (x0 : Int), .int .u64 (x1 : Int), .int .u64 (x2 : Int), .int .u64 (x3 : Int)] := rfl
theorem four_of {a : List Nat} (h : isSet a) : ∃ x0 x1 x2 x3 : Nat, a = [x0, x1, x2, x3] := by
  match a, h.l with
  | [x0, x1, x2, x3], _ => exact ⟨x0, x1, x2, x3, rfl⟩
theorem cells4 {w : World} {g x0 x1 x2 x3 : Nat} (h : Blk w g 64 (sv [x0, x1, x2, x3])) :
    w.cell? ⟨g, 0, none⟩ = some (.int .u64 x0) ∧ w.cell? ⟨g, 1, none⟩ = some (.int .u64 x1) ∧ w.cell? ⟨g, 2, none⟩ = some (.int .u64 x2) ∧ w.cell? ⟨g, 3, none⟩ = some (.int .u64 x3) :=
  ⟨h.cell 0, h.cell 1, h.cell 2, h.cell 3⟩
theorem store4 {w : World} {g x0 x1 x2 x3 y0 y1 y2 y3 : Nat} (h : Blk w g 64 (sv [x0, x1, x2, x3])) :
    Blk ((((w.setCell ⟨g, 0, none⟩ (.int .u64 y0)).setCell ⟨g, 1, none⟩ (.int .u64 y1)).setCell ⟨g, 2, none⟩ (.int .u64 y2)).setCell ⟨g, 3, none⟩ (.int .u64 y3)) g 64 (sv [y0, y1, y2, y3]) := by
  have h0 := h.store 0 (.int .u64 y0)
  have h1 := h0.store 1 (.int .u64 y1)
  have h2 := h1.store 2 (.int .u64 y2)
  exact h2.store 3 (.int .u64 y3)
theorem only4 {w : World} {g : Nat} (v0 v1 v2 v3 : Value) : Only (· = g) w ((((w.setCell ⟨g, 0, none⟩ v0).setCell ⟨g, 1, none⟩ v1).setCell ⟨g, 2, none⟩ v2).setCell ⟨g, 3, none⟩ v3) :=
  ((((Only.refl (· = g) w).store (p := ⟨g, 0, none⟩) (.inl rfl) _).store (p := ⟨g, 1, none⟩) (.inl rfl) _).store (p := ⟨g, 2, none⟩) (.inl rfl) _).store (p := ⟨g, 3, none⟩) (.inl rfl) _

set_option maxRecDepth 100000 in
theorem rOf_any (s : ByteArray) (w : World) (hs : s.size ≤ 9223372036854775807) :
    Calls Try.prog 101 #[.string s] w fun e w' => e = .returned (.agg (sv (ofS s.data.toList))) ∧ Below w.heap.size w w' := by
  obtain ⟨hz, hsz⟩ := zero_of_info infoS
  rw [sv_zero] at hz
  go_enter Try.func101, Try.ntmps101
  go_wp2
  clear hz hsz
  go_loopw [4] (fun i wr => ∃ k : Nat, i = .int .i64 k ∧ k ≤ s.size ∧ Hid (Blk wr w.heap.size 64 (sv zero)) ∧ Hid (Blk wr (w.heap.size + 1) 64 (sv (ofS (s.data.toList.take k)))) ∧ Hid (Below w.heap.size w wr))
    (fun i _ => s.size - (intOf i).toNat)
  case atStart =>
    obtain ⟨h1, h2, h3⟩ := two_start w 64 (sv zero) (sv zero)
    exact ⟨0, rfl, by omega, Lib.hid h1, Lib.hid h2, Lib.hid h3⟩
  case round =>
    obtain ⟨k, rfl, hk, HR, HT, HB⟩ := hrel
    by_cases h8 : k < s.size
    · obtain ⟨x, hx, HX⟩ : ∃ x : UInt8, s[k]'h8 = x ∧ Hid (s[k]'h8 = x) := ⟨_, rfl, Lib.hid rfl⟩
      have hx256 : x.toNat < 256 := UInt8.toNat_lt x
      have HV := Lib.hid (fun u => rwith_any (ofS_set (s.data.toList.take k)) hx256 u)
      have HE : Hid (ofS (s.data.toList.take (k + 1)) = wth (ofS (s.data.toList.take k)) x.toNat) := Lib.hid (by rw [take_next s k h8, HX.out, ofS_snoc])
      obtain ⟨y0, y1, y2, y3, hy⟩ := four_of (wth_set (ofS_set (s.data.toList.take k)) x.toNat)
      obtain ⟨x0, x1, x2, x3, hxs⟩ := four_of (ofS_set (s.data.toList.take k))
      rw [hy] at HV HE
      rw [hxs] at HV HT
      clear hy hxs
      obtain ⟨c0, c1, c2, c3⟩ := cells4 HT.out
      simp only [sv_four] at HV
      have HD : Hid (Blk wr.drew (w.heap.size + 1) 64 (sv [x0, x1, x2, x3])) := Lib.hid HT.out
      go_wp2
      go_region_with (go_at_call 110; refine (HV.out _).mono ?_; rintro e w1 ⟨rfl, b1⟩; have B1 := Lib.hid b1; clear b1; have f0 := (HD.out.below B1.out).frozen 0; have f1 := (HD.out.below B1.out).frozen 1; have f2 := (HD.out.below B1.out).frozen 2; have f3 := (HD.out.below B1.out).frozen 3; obtain ⟨g0, g1, g2, g3⟩ := cells4 (HD.out.below B1.out))
      all_goals go_wp2
      all_goals go_roundw
      all_goals first | exact ⟨k + 1, by go_num, by omega, Lib.hid (Blk.only ((show Blk wr.drew w.heap.size 64 (sv zero) from HR.out).below B1.out) (only4 (g := w.heap.size + 1) _ _ _ _) (by omega)), Lib.hid (by rw [HE.out]; exact store4 (HD.out.below B1.out)), Lib.hid (below_only ((show Below w.heap.size w wr.drew from below_drew HB.out).trans (B1.out.mono HB.out.size)) (only4 (g := w.heap.size + 1) _ _ _ _) (by omega) ((show Below w.heap.size w wr.drew from below_drew HB.out).trans (B1.out.mono HB.out.size)).size)⟩ | (simp [intOf]; omega)
    · have hk8 := Lib.hid (show k = s.size by omega)
      obtain ⟨z, hz⟩ : ∃ z, z = sv (ofS s.data.toList) := ⟨_, rfl⟩
      have HZ := Lib.hid hz
      have HT' : Hid (Blk wr (w.heap.size + 1) 64 z) := Lib.hid (by have := HT.out; rw [hk8.out, take_all] at this; rw [HZ.out]; exact this)
      have H4 : Hid (z.size = 4) := Lib.hid (by rw [HZ.out, sv4 (ofS_set _)])
      have H1 : Hid (z.all (·.oneCell') = true) := Lib.hid (by rw [HZ.out]; exact sv_one _)
      have hlt : ¬ ((k : Int) < (s.size : Int)) := by omega
      clear hz hk h8
      go_wp2_with (first | refine wpList_load_row rfl 64 _ rfl (w.heap.size + 1) rfl _ _ _ _ HT'.out Try.underlying64 rfl (fit H4.out) ?_ | refine wpList_store_row rfl 64 _ _ rfl w.heap.size z rfl rfl _ _ HR.out (fit H4.out) (Eq.trans (sv4 zero_set) (Eq.symm H4.out)) H1.out ?_)
      refine bodyPost_ret (v := .agg z) (results_cell_row rfl _ _ w.heap.size 64 _ _ _ rfl (setRow_heap _ _ _ _ _ _ HR.out) Try.underlying64 rfl (fit H4.out)) rfl ?_
      exact ⟨by rw [HZ.out], Below_setRow HB.out (Nat.le_refl _) _⟩

theorem start4 (w : World) (t : TypeId) (c1 c2 c3 c4 : Array Value) : Blk ((((w.alloc (.cells c1 t)).alloc (.cells c2 t)).alloc (.cells c3 t)).alloc (.cells c4 t)) w.heap.size t c1
    ∧ Blk ((((w.alloc (.cells c1 t)).alloc (.cells c2 t)).alloc (.cells c3 t)).alloc (.cells c4 t)) (w.heap.size + 1) t c2 ∧ Blk ((((w.alloc (.cells c1 t)).alloc (.cells c2 t)).alloc (.cells c3 t)).alloc (.cells c4 t)) (w.heap.size + 1 + 1) t c3
    ∧ Blk ((((w.alloc (.cells c1 t)).alloc (.cells c2 t)).alloc (.cells c3 t)).alloc (.cells c4 t)) (w.heap.size + 1 + 1 + 1) t c4 ∧ Below w.heap.size w ((((w.alloc (.cells c1 t)).alloc (.cells c2 t)).alloc (.cells c3 t)).alloc (.cells c4 t)) := by
  obtain ⟨h1, h2, h3, h4⟩ := start3 w t t t c1 c2 c3
  refine ⟨h1.below (below_alloc _ _), h2.below (below_alloc _ _), h3.below (below_alloc _ _), ?_, grows h4 (below_alloc _ _)⟩
  have := Blk.fresh (((w.alloc (.cells c1 t)).alloc (.cells c2 t)).alloc (.cells c3 t)) t c4
  rw [size_alloc, size_alloc, size_alloc] at this; exact this

theorem ofS_two {a b : List Nat} (ha : isSet a) (hb : isSet b) : ofS (bts a ++ bts b) = orL a b := set_ext (ofS_set _) (orL_set ha hb) fun c hc => by
  have h1 := has_ofS (bts a) hc
  have h2 := has_ofS (bts b) hc
  rw [show ofS (bts a) = a from ofS_byt ha] at h1
  rw [show ofS (bts b) = b from ofS_byt hb] at h2
  rw [has_ofS _ hc, List.any_append, has_or hc, h1, h2]
/-- What the calls of Or keep. -/
structure kept (W w : World) (a b z : List Nat) : Prop where
  a : Blk w W.heap.size 64 (sv a)
  b : Blk w (W.heap.size + 1) 64 (sv b)
  z : Blk w (W.heap.size + 1 + 1) 64 (sv z)
  w : Below W.heap.size W w
theorem kept.next {W w w' : World} {a b z : List Nat} (h : kept W w a b z) (k : Below w.heap.size w w') : kept W w' a b z := ⟨h.a.below k, h.b.below k, h.z.below k, h.w.trans (k.mono h.w.size)⟩

set_option maxHeartbeats 1000000 in
set_option maxRecDepth 100000 in
theorem rOr_any {a b : List Nat} (ha : isSet a) (hb : isSet b) (w : World) :
    Calls Try.prog 109 #[.agg (sv a), .agg (sv b)] w fun e w' => e = .returned (.agg (sv (orL a b))) ∧ Below w.heap.size w w' := by
  obtain ⟨hz, hsz⟩ := zero_of_info infoS
  rw [sv_zero] at hz
  obtain ⟨sa, hsa⟩ : ∃ sa : ByteArray, sa = ⟨(bts a).toArray⟩ := ⟨_, rfl⟩
  obtain ⟨sb, hsb⟩ : ∃ sb : ByteArray, sb = ⟨(bts b).toArray⟩ := ⟨_, rfl⟩
  have la : sa.size ≤ 256 := by rw [hsa]; exact btTo_len a 256
  have lb : sb.size ≤ 256 := by rw [hsb]; exact btTo_len b 256
  have hadd : ¬ 9223372036854775807 < sa.size + sb.size := by omega
  have HA : Hid (∀ u, Calls Try.prog 107 #[.agg (sv a)] u fun e w' => e = .returned (.string sa) ∧ Below u.heap.size u w') := Lib.hid (fun u => by rw [hsa]; exact rBytes_any ha u)
  have HC : Hid (∀ u, Calls Try.prog 107 #[.agg (sv b)] u fun e w' => e = .returned (.string sb) ∧ Below u.heap.size u w') := Lib.hid (fun u => by rw [hsb]; exact rBytes_any hb u)
  have HO : Hid (∀ u, Calls Try.prog 101 #[.string (sa ++ sb)] u fun e w' => e = .returned (.agg (sv (orL a b))) ∧ Below u.heap.size u w') := Lib.hid (fun u => by
    have := rOf_any (sa ++ sb) u (by rw [ByteArray.size_append]; omega)
    rw [ByteArray.data_append, Array.toList_append, hsa, hsb] at this
    rw [show (⟨(bts a).toArray⟩ : ByteArray).data.toList = bts a from rfl, show (⟨(bts b).toArray⟩ : ByteArray).data.toList = bts b from rfl, ofS_two ha hb] at this
    rw [hsa, hsb]
    exact this)
  obtain ⟨y0, y1, y2, y3, hy⟩ := four_of (orL_set ha hb)
  obtain ⟨x0, x1, x2, x3, hx⟩ := four_of ha
  obtain ⟨u0, u1, u2, u3, hu⟩ := four_of hb
  rw [hy] at HO ⊢
  rw [hx] at HA ⊢
  rw [hu] at HC ⊢
  have HK : Hid (∀ W, W = ((w.alloc (.cells (sv [x0, x1, x2, x3]) 64)).alloc (.cells (sv [u0, u1, u2, u3]) 64)).alloc (.cells (sv zero) 64) → kept w W [x0, x1, x2, x3] [u0, u1, u2, u3] [0, 0, 0, 0]) := Lib.hid (fun W hW => by
    obtain ⟨h1, h2, h3, h4⟩ := start3 w 64 64 64 (sv [x0, x1, x2, x3]) (sv [u0, u1, u2, u3]) (sv zero)
    subst hW
    exact ⟨h1, h2, h3, h4⟩)
  simp only [sv_four] at HA HC HO HK ⊢
  clear hsa hsb hy hx hu ha hb hsz
  go_enter Try.func109, Try.ntmps109
  go_wp2_with fail
  obtain ⟨W, hW⟩ : ∃ W, W = ((w.alloc (.cells #[.int .u64 (x0 : Int), .int .u64 (x1 : Int), .int .u64 (x2 : Int), .int .u64 (x3 : Int)] 64)).alloc (.cells #[.int .u64 (u0 : Int), .int .u64 (u1 : Int), .int .u64 (u2 : Int), .int .u64 (u3 : Int)] 64)).alloc (.cells (sv zero) 64) := ⟨_, rfl⟩
  rw [← hW]
  have K0 := Lib.hid (HK.out W hW)
  have HK := Lib.hid (show kept w W.drew [x0, x1, x2, x3] [u0, u1, u2, u3] [0, 0, 0, 0] from ⟨K0.out.a, K0.out.b, K0.out.z, below_drew K0.out.w⟩)
  obtain ⟨c0, c1, c2, c3⟩ := cells4 K0.out.a
  obtain ⟨d0, d1, d2, d3⟩ := cells4 K0.out.b
  clear hW hz
  go_region_with (first | (go_at_call 107; with_reducible refine (HA.out _).mono ?_; rintro e w1 ⟨rfl, b1⟩; have HK := Lib.hid (HK.out.next b1); clear b1; obtain ⟨c0, c1, c2, c3⟩ := cells4 HK.out.a; obtain ⟨d0, d1, d2, d3⟩ := cells4 HK.out.b) | (go_at_call 107; with_reducible refine (HC.out _).mono ?_; rintro e w1 ⟨rfl, b1⟩; have HK := Lib.hid (HK.out.next b1); clear b1; obtain ⟨c0, c1, c2, c3⟩ := cells4 HK.out.a; obtain ⟨d0, d1, d2, d3⟩ := cells4 HK.out.b) | (go_at_call 101; refine (HO.out _).mono ?_; rintro e w1 ⟨rfl, b1⟩; have HK := Lib.hid (HK.out.next b1); clear b1; obtain ⟨c0, c1, c2, c3⟩ := cells4 HK.out.z; have f0 := HK.out.z.frozen 0; have f1 := HK.out.z.frozen 1; have f2 := HK.out.z.frozen 2; have f3 := HK.out.z.frozen 3))
  all_goals have H2 := Lib.hid (store4 (y0 := y0) (y1 := y1) (y2 := y2) (y3 := y3) HK.out.z)
  all_goals have HB := Lib.hid (below_only HK.out.w (only4 (w := w1) (g := w.heap.size + 1 + 1) (.int .u64 (y0 : Int)) (.int .u64 (y1 : Int)) (.int .u64 (y2 : Int)) (.int .u64 (y3 : Int))) (by omega) HK.out.w.size)
  all_goals generalize (((w1.setCell ⟨w.heap.size + 1 + 1, 0, none⟩ (.int .u64 (y0 : Int))).setCell ⟨w.heap.size + 1 + 1, 1, none⟩ (.int .u64 (y1 : Int))).setCell ⟨w.heap.size + 1 + 1, 2, none⟩ (.int .u64 (y2 : Int))).setCell ⟨w.heap.size + 1 + 1, 3, none⟩ (.int .u64 (y3 : Int)) = w2 at *
  all_goals go_wp2
  all_goals exact bodyPost_ret (v := .agg (sv [y0, y1, y2, y3])) (results_cell_row rfl _ _ (w.heap.size + 1 + 1) 64 _ _ _ rfl H2.out Try.underlying64 rfl (fit rfl)) rfl ⟨rfl, HB.out⟩
end Go.Proofs.Ythjelilmlbbalaa.Tf
namespace Go.Proofs.Ythjelilmlbbalaa.Tj
open Go.RowKit Go.Proofs.Ythjelilmlbbalaa.Bw Go.Proofs.Ythjelilmlbbalaa.Tm Go.Proofs.Ythjelilmlbbalaa.Ta Go.Proofs.Ythjelilmlbbalaa.Tb Go.Proofs.Ythjelilmlbbalaa.Tf

set_option maxRecDepth 100000 in
theorem eq_four (x0 x1 x2 x3 y0 y1 y2 y3 : Int) (w : World) :
    (Op.equalIn 10000 64 (.agg #[.int .u64 x0, .int .u64 x1, .int .u64 x2, .int .u64 x3]) (.agg #[.int .u64 y0, .int .u64 y1, .int .u64 y2, .int .u64 y3])).run Try.prog w = .ok (x0 == y0 && x1 == y1 && x2 == y2 && x3 == y3) w := by
  have u3 := Try.underlying62
  have a3 := Try.isAgg62
  have z3 := Try.sizeOf62
  rw [show (10000 : Nat) = 9999 + 1 from rfl, Op.equalIn]
  simp only [Sem.run_bind, run_underlying Try.underlying64, Result.andThen_ok]
  simp only [Std.Legacy.Range.forIn_eq_forIn_range', Std.Legacy.Range.size, Nat.sub_zero, Nat.add_sub_cancel, Nat.div_one, List.range'_succ, List.range'_zero, List.forIn_cons, List.forIn_nil]
  go_simp
  by_cases h0 : x0 = y0 <;> by_cases h1 : x1 = y1 <;> by_cases h2 : x2 = y2 <;> by_cases h3 : x3 = y3 <;> simp [h0, h1, h2, h3]
theorem eq_same (x0 x1 x2 x3 : Int) (w : World) :
    (Op.equalIn 10000 64 (.agg #[.int .u64 x0, .int .u64 x1, .int .u64 x2, .int .u64 x3]) (.agg #[.int .u64 x0, .int .u64 x1, .int .u64 x2, .int .u64 x3])).run Try.prog w = .ok true w := by
  rw [eq_four]; simp
theorem eq_not {x0 x1 x2 x3 y0 y1 y2 y3 : Nat} (h : ([x0, x1, x2, x3] : List Nat) ≠ [y0, y1, y2, y3]) (w : World) :
    (Op.equalIn 10000 64 (.agg #[.int .u64 (x0 : Int), .int .u64 (x1 : Int), .int .u64 (x2 : Int), .int .u64 (x3 : Int)]) (.agg #[.int .u64 (y0 : Int), .int .u64 (y1 : Int), .int .u64 (y2 : Int), .int .u64 (y3 : Int)])).run Try.prog w = .ok false w := by
  rw [eq_four]
  congr 1
  rw [Bool.eq_false_iff]
  intro e
  simp only [Bool.and_eq_true, beq_iff_eq] at e
  obtain ⟨⟨⟨e0, e1⟩, e2⟩, e3⟩ := e
  have f0 : x0 = y0 := by omega
  have f1 : x1 = y1 := by omega
  have f2 : x2 = y2 := by omega
  have f3 : x3 = y3 := by omega
  exact h (by rw [f0, f1, f2, f3])
theorem eq_sv {a b : List Nat} (ha : isSet a) (h : a = b) (w : World) : (Op.equalIn 10000 64 (.agg (sv a)) (.agg (sv b))).run Try.prog w = .ok true w := by
  subst h
  obtain ⟨x0, x1, x2, x3, rfl⟩ := four_of ha
  exact eq_same _ _ _ _ w
end Go.Proofs.Ythjelilmlbbalaa.Tj
