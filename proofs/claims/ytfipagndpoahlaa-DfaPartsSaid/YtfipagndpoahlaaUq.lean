/-
  known() of layer 18: the fixed calls.
  Conditions: none.
-/
import Derived.Test.YtfipagndpoahlaaUp
import Derived.Test.YtfipagndpoahlaaUh
import Derived.Test.YtfipagndpoahlaaUk
namespace Go.Proofs.Ytfipagndpoahlaa.Uq
open Go.RowKit Go.PlainAid Go.Proofs.Ytfipagndpoahlaa.Bw Go.Proofs.Ytfipagndpoahlaa.Na Go.Proofs.Ytfipagndpoahlaa.Ko Go.Proofs.Ytfipagndpoahlaa.Ua Go.Proofs.Ytfipagndpoahlaa.Ub Go.Proofs.Ytfipagndpoahlaa.Uc Go.Proofs.Ytfipagndpoahlaa.Ud Go.Proofs.Ytfipagndpoahlaa.Ue Go.Proofs.Ytfipagndpoahlaa.Uf Go.Proofs.Ytfipagndpoahlaa.Ug Go.Proofs.Ytfipagndpoahlaa.Ui Go.Proofs.Ytfipagndpoahlaa.Uj Go.Proofs.Ytfipagndpoahlaa.Uk Go.Proofs.Ytfipagndpoahlaa.Ul Go.Proofs.Ytfipagndpoahlaa.Um Go.Proofs.Ytfipagndpoahlaa.Un Go.Proofs.Ytfipagndpoahlaa.Up

/-- The cells of an automaton whose rows lie behind n. -/
def cellsAt (n : Nat) : Array Value := dcs (.slice (some ⟨n + 1, 0, none⟩) 1 1) (.slice (some ⟨n + 1 + 1, 0, none⟩) 1 1) cl0
theorem cellsAt_size (n : Nat) : (cellsAt n).size = 258 := celN_size _ _
theorem cellsAt_one (n : Nat) : (cellsAt n).all (·.oneCell') = true := by
  rw [Array.all_eq_true]
  intro i hi
  have h := cellsAt_size n
  have e : (cellsAt n)[i]? = some (dcell (.slice (some ⟨n + 1, 0, none⟩) 1 1) (.slice (some ⟨n + 1 + 1, 0, none⟩) 1 1) cl0 i) := celN_get _ (by omega)
  rw [Array.getElem?_eq_getElem hi] at e
  rw [Option.some.inj e]
  unfold dcell
  split
  · rfl
  · split <;> rfl
theorem laid (w : World) (x : Int) {W : World} (hW : W = (((w.alloc (.cells #[.int .i64 x] 3)).alloc (.cells #[.slice (some ⟨w.heap.size, 0, none⟩) 1 1] 24)).alloc (.cells #[.int .i64 3] 3)).alloc (.cells (cellsAt w.heap.size) 26)) :
    Blk W (w.heap.size + 1 + 1 + 1) 26 (cellsAt w.heap.size) ∧ dfa W (cellsAt w.heap.size) (one x) ∧ Below w.heap.size w W := by
  obtain ⟨s1, s2, s3, s4⟩ := start3 w 3 24 3 #[.int .i64 x] #[.slice (some ⟨w.heap.size, 0, none⟩) 1 1] #[.int .i64 3]
  obtain ⟨w3, hw3⟩ : ∃ w3, w3 = ((w.alloc (.cells #[.int .i64 x] 3)).alloc (.cells #[.slice (some ⟨w.heap.size, 0, none⟩) 1 1] 24)).alloc (.cells #[.int .i64 3] 3) := ⟨_, rfl⟩
  have hs : w3.heap.size = w.heap.size + 1 + 1 + 1 := by rw [hw3, size_alloc, size_alloc, size_alloc]
  rw [← hw3] at s1 s2 s3 s4 hW
  have k4 := Blk.fresh w3 26 (cellsAt w.heap.size)
  rw [hs] at k4
  have kW : Below w3.heap.size w3 W := by rw [hW]; exact below_alloc _ _
  have kd := one_dfv (x := x) (s1.below kW) (s2.below kW) (s3.below kW)
  refine ⟨?_, kd.of, grows s4 kW⟩
  rw [hW]
  exact k4
theorem stored (w : World) (V : Array Value) (hV : V.size = 258) (h1 : V.all (·.oneCell') = true) (A B C : Obj) : (storeCells ⟨w.heap.size + 1 + 1 + 1, 0, none⟩ V.toList 0).run Try.prog ((((w.alloc A).alloc B).alloc C).alloc (.cells dz 26)) = .ok () ((((w.alloc A).alloc B).alloc C).alloc (.cells V 26)) := by
  have h := run_storeCells_new (P := Try.prog) (((w.alloc A).alloc B).alloc C) 26 dz V (by rw [hV]; exact infoD) (by rw [hV, dz_size]) h1
  rw [size_alloc, size_alloc, size_alloc] at h
  exact h
theorem size_dfa : ∃ N : Nat, N = 258 ∧ ∀ w, (sizeOf 26).run Try.prog w = .ok N w := ⟨258, rfl, Try.sizeOf26⟩
theorem loadN {V : Array Value} {g N : Nat} (hV : V.size = 258) (hN : N = 258) (w : World) (h : Blk w g 26 V) : (loadCellsFrom ⟨g, 0, none⟩ 0 N #[]).run Try.prog w = .ok V w := by
  subst hN
  have := run_loadCells_list (P := Try.prog) w ⟨g, 0, none⟩ V.toList (fun j v hv => by
    have hadd : (⟨g, 0, none⟩ : Addr).add j = ⟨g, j, none⟩ := by unfold Addr.add; split <;> simp_all
    rw [hadd, h.cell j]
    simpa using hv)
  simpa [loadCells, hV] using this
set_option maxHeartbeats 4000000 in
set_option maxRecDepth 100000 in
theorem known_any (w : World) : Calls Try.prog 8 #[] w fun e w' => e = .returned (.bool true) ∧ Below w.heap.size w w' := by
  obtain ⟨hz, hsz⟩ := zero_of_info infoZ
  obtain ⟨Z, hZ⟩ : ∃ Z, Z = dz := ⟨_, rfl⟩
  have HLD := Lib.hid (fun u x W h => laid u x (W := W) h)
  have HST : Hid (∀ (u : World) (V : Array Value), V.size = 258 → V.all (·.oneCell') = true → ∀ A B C : Obj, (storeCells ⟨u.heap.size + 1 + 1 + 1, 0, none⟩ V.toList 0).run Try.prog ((((u.alloc A).alloc B).alloc C).alloc (.cells Z 26)) = .ok () ((((u.alloc A).alloc B).alloc C).alloc (.cells V 26))) := Lib.hid (by rw [hZ]; exact stored)
  rw [← hZ] at hz
  clear hsz hZ
  obtain ⟨V1, hV1⟩ : ∃ V1, V1 = cellsAt w.heap.size := ⟨_, rfl⟩
  have HB1 : Hid (Try.prog.built 26 [(1, .slice (some ⟨w.heap.size + 1, 0, none⟩) 1 1), (2, .slice (some ⟨w.heap.size + 1 + 1, 0, none⟩) 1 1)] = some V1) := Lib.hid (by rw [hV1]; exact built _ _ 1 1 1 1)
  have HV1 : Hid (V1.size = 258) := Lib.hid (by rw [hV1]; exact cellsAt_size _)
  have HO1 : Hid (V1.all (·.oneCell') = true) := Lib.hid (by rw [hV1]; exact cellsAt_one _)
  have hst := HST.out w V1 HV1.out HO1.out
  have HE1 := Lib.hid hV1
  clear hV1
  go_enter Try.func8, Try.ntmps8
  go_upto_region 2 with (refine wpList_buildTo rfl 26 #[(1, .tmp 5), (2, .tmp 6)] rfl (some 7) rfl V1 ?hbb ?_)
  case hbb => exact HB1.out
  obtain ⟨w4, hw4⟩ : ∃ w4, w4 = (((w.alloc (.cells #[.int .i64 0] 3)).alloc (.cells #[.slice (some ⟨w.heap.size, 0, none⟩) 1 1] 24)).alloc (.cells #[.int .i64 3] 3)).alloc (.cells V1 26) := ⟨_, rfl⟩
  obtain ⟨k1, a1, b1⟩ := HLD.out w 0 w4 (by rw [hw4, HE1.out])
  rw [← HE1.out] at k1 a1
  obtain ⟨g1, hg1⟩ : ∃ g1, g1 = w.heap.size + 1 + 1 + 1 := ⟨_, rfl⟩
  rw [← hg1] at k1
  rw [← hw4, ← hg1]
  have KB1 := Lib.hid k1
  have KA1 := Lib.hid a1
  have BB1 := Lib.hid b1
  clear hst hw4 hg1 k1 a1 b1
  obtain ⟨V2, hV2⟩ : ∃ V2, V2 = cellsAt w4.heap.size := ⟨_, rfl⟩
  have HB2 : Hid (Try.prog.built 26 [(1, .slice (some ⟨w4.heap.size + 1, 0, none⟩) 1 1), (2, .slice (some ⟨w4.heap.size + 1 + 1, 0, none⟩) 1 1)] = some V2) := Lib.hid (by rw [hV2]; exact built _ _ 1 1 1 1)
  have HV2 : Hid (V2.size = 258) := Lib.hid (by rw [hV2]; exact cellsAt_size _)
  have HO2 : Hid (V2.all (·.oneCell') = true) := Lib.hid (by rw [hV2]; exact cellsAt_one _)
  have hst := HST.out w4 V2 HV2.out HO2.out
  have HE2 := Lib.hid hV2
  clear hV2
  go_upto_region 3 with (refine wpList_buildTo rfl 26 #[(1, .tmp 9), (2, .tmp 10)] rfl (some 11) rfl V2 ?hbb2 ?_)
  case hbb2 => exact HB2.out
  obtain ⟨w8, hw8⟩ : ∃ w8, w8 = (((w4.alloc (.cells #[.int .i64 1] 3)).alloc (.cells #[.slice (some ⟨w4.heap.size, 0, none⟩) 1 1] 24)).alloc (.cells #[.int .i64 3] 3)).alloc (.cells V2 26) := ⟨_, rfl⟩
  obtain ⟨k2, a2, b2⟩ := HLD.out w4 1 w8 (by rw [hw8, HE2.out])
  rw [← HE2.out] at k2 a2
  obtain ⟨g2, hg2⟩ : ∃ g2, g2 = w4.heap.size + 1 + 1 + 1 := ⟨_, rfl⟩
  rw [← hg2] at k2
  rw [← hw8, ← hg2]
  have HK : Hid (∀ u, Below w8.heap.size w8 u → Blk u g1 26 V1 ∧ Blk u g2 26 V2) := Lib.hid (fun u k => ⟨(KB1.out.below b2).below k, k2.below k⟩)
  have HA1 : Hid (∀ u, Below w8.heap.size w8 u → Hid (dfa u V1 (one 0))) := Lib.hid (fun u k => Lib.hid ((KA1.out.below b2).below k))
  have HA2 : Hid (∀ u, Below w8.heap.size w8 u → Hid (dfa u V2 (one 1))) := Lib.hid (fun u k => Lib.hid (a2.below k))
  have BB2 := Lib.hid (grows BB1.out b2)
  clear hst hw8 hg2 k2 a2 b2 hz KB1 KA1
  obtain ⟨N, hN, hsz⟩ := size_dfa
  have hl1 := loadN (g := g1) HV1.out hN
  have hl2 := loadN (g := g2) HV2.out hN
  have KU := Lib.hid (Below.refl w8.heap.size w8)
  obtain ⟨hb1, hb2⟩ := HK.out w8 KU.out
  clear hN
  have CR1 : Hid (∀ u, Below w8.heap.size w8 u → Calls Try.prog 9 #[.agg V1] u fun e w' => e = .returned (.bool true) ∧ Below u.heap.size u w') := Lib.hid (fun u k => (Right_any (HA1.out u k)).mono fun e w' h => h.yes one_ok)
  have CR2 : Hid (∀ u, Below w8.heap.size w8 u → Calls Try.prog 9 #[.agg V2] u fun e w' => e = .returned (.bool false) ∧ Below u.heap.size u w') := Lib.hid (fun u k => (Right_any (HA2.out u k)).mono fun e w' h => h.no one_bad)
  have CA1 : Hid (∀ u, Below w8.heap.size w8 u → Calls Try.prog 15 #[.agg V1, .string ⟨#[97, 110, 121]⟩] u fun e w' => e = .returned (.int .i64 3) ∧ Below u.heap.size u w') := Lib.hid (fun u k => (by have := After_any (s := ⟨#[97, 110, 121]⟩) (by decide) (HA1.out u k); rw [one_aft] at this; exact this))
  have CA2 : Hid (∀ u, Below w8.heap.size w8 u → Calls Try.prog 15 #[.agg V2, .string ⟨#[]⟩] u fun e w' => e = .returned (.int .i64 (-1)) ∧ Below u.heap.size u w') := Lib.hid (fun u k => (by have := After_any (s := ⟨#[]⟩) (by decide) (HA2.out u k); rw [aftI_bad one_bad] at this; exact this))
  have CU1 : Hid (∀ u, Below w8.heap.size w8 u → Calls Try.prog 13 #[.agg V1, .string ⟨#[120]⟩] u fun e w' => e = .returned (.int .i64 0) ∧ Below u.heap.size u w') := Lib.hid (fun u k => (by have := Run_any (s := ⟨#[120]⟩) (by decide) (HA1.out u k); rw [one_run] at this; exact this))
  have CS1 : Hid (∀ u, Below w8.heap.size w8 u → Calls Try.prog 11 #[.agg V1, .int .i64 1, .int .u8 97] u fun e w' => e = .returned (.int .i64 (-1)) ∧ Below u.heap.size u w') := Lib.hid (fun u k => (by have := Step_any (c := 97) 1 (by omega) (HA1.out u k); rw [one_stp] at this; exact this))
  have CM1 : Hid (∀ u, Below w8.heap.size w8 u → Calls Try.prog 20 #[.agg V1, .agg V1] u fun e w' => e = .returned (.bool true) ∧ Below u.heap.size u w') := Lib.hid (fun u k => (Same_any (HA1.out u k) (HA1.out u k)).mono fun e w' h => h.yes rfl)
  have CM2 : Hid (∀ u, Below w8.heap.size w8 u → Calls Try.prog 20 #[.agg V1, .agg V2] u fun e w' => e = .returned (.bool false) ∧ Below u.heap.size u w') := Lib.hid (fun u k => (Same_any (HA1.out u k) (HA2.out u k)).mono fun e w' h => h.no one_ne)
  go_upto_region 4 with (go_at_call 18; refine (Live_any (HA1.out _ KU.out)).mono ?_; rintro e u ⟨A, n, c, f, rfl, hr, hc, hy, _, k⟩; obtain ⟨hn0, hlv⟩ := hy one_ok; have hn : n = 1 := hn0; clear hn0; subst hn; have HRW := Lib.hid hr; have HLV : Hid (f 0 = true) := Lib.hid ((hlv 0 (by omega)).2 one_lv); have KU := Lib.hid (grows KU.out k); clear hy hr hlv k hb1 hb2)
  obtain ⟨b, o, rfl, hb, hc0⟩ := HRW.out 0 (by omega)
  rw [HLV.out] at hc0
  have HP : Hid (∀ u', Below u.heap.size u u' → u'.cell? ⟨b, o, none⟩ = some (.bool true)) := Lib.hid (fun u' k => (k.cell (p := ⟨b, o, none⟩) hb).trans hc0)
  have KR := Lib.hid (Below.refl u.heap.size u)
  obtain ⟨hb1, hb2⟩ := HK.out _ KU.out
  have hl0 := HP.out _ KR.out
  clear hb hc0
  go_wp2_with (first | (go_at_call 9; (with_reducible refine (CR1.out _ KU.out).mono ?_); rintro e u ⟨rfl, k⟩; have KU := Lib.hid (grows KU.out k); have KR := Lib.hid (grows KR.out k); clear hb1 hb2 hl0 k; obtain ⟨hb1, hb2⟩ := HK.out _ KU.out; have hl0 := HP.out _ KR.out) | (go_at_call 9; (with_reducible refine (CR2.out _ KU.out).mono ?_); rintro e u ⟨rfl, k⟩; have KU := Lib.hid (grows KU.out k); have KR := Lib.hid (grows KR.out k); clear hb1 hb2 hl0 k; obtain ⟨hb1, hb2⟩ := HK.out _ KU.out; have hl0 := HP.out _ KR.out) | (go_at_call 15; (with_reducible refine (CA1.out _ KU.out).mono ?_); rintro e u ⟨rfl, k⟩; have KU := Lib.hid (grows KU.out k); have KR := Lib.hid (grows KR.out k); clear hb1 hb2 hl0 k; obtain ⟨hb1, hb2⟩ := HK.out _ KU.out; have hl0 := HP.out _ KR.out) | (go_at_call 15; (with_reducible refine (CA2.out _ KU.out).mono ?_); rintro e u ⟨rfl, k⟩; have KU := Lib.hid (grows KU.out k); have KR := Lib.hid (grows KR.out k); clear hb1 hb2 hl0 k; obtain ⟨hb1, hb2⟩ := HK.out _ KU.out; have hl0 := HP.out _ KR.out) | (go_at_call 13; (with_reducible refine (CU1.out _ KU.out).mono ?_); rintro e u ⟨rfl, k⟩; have KU := Lib.hid (grows KU.out k); have KR := Lib.hid (grows KR.out k); clear hb1 hb2 hl0 k; obtain ⟨hb1, hb2⟩ := HK.out _ KU.out; have hl0 := HP.out _ KR.out) | (go_at_call 11; (with_reducible refine (CS1.out _ KU.out).mono ?_); rintro e u ⟨rfl, k⟩; have KU := Lib.hid (grows KU.out k); have KR := Lib.hid (grows KR.out k); clear hb1 hb2 hl0 k; obtain ⟨hb1, hb2⟩ := HK.out _ KU.out; have hl0 := HP.out _ KR.out) | (go_at_call 20; (with_reducible refine (CM1.out _ KU.out).mono ?_); rintro e u ⟨rfl, k⟩; have KU := Lib.hid (grows KU.out k); have KR := Lib.hid (grows KR.out k); clear hb1 hb2 hl0 k; obtain ⟨hb1, hb2⟩ := HK.out _ KU.out; have hl0 := HP.out _ KR.out) | (go_at_call 20; (with_reducible refine (CM2.out _ KU.out).mono ?_); rintro e u ⟨rfl, k⟩; have KU := Lib.hid (grows KU.out k); have KR := Lib.hid (grows KR.out k); clear hb1 hb2 hl0 k; obtain ⟨hb1, hb2⟩ := HK.out _ KU.out; have hl0 := HP.out _ KR.out))
  go_ret
  exact ⟨rfl, grows BB2.out KU.out⟩
end Go.Proofs.Ytfipagndpoahlaa.Uq
