/-
  The walk of collimatorlaw12.GzheadBuilds.
-/
import Derived.Test.YtgilfjojimgpaaaQw
namespace Go.Proofs.Ytgilfjojimgpaaa.gzheadBuilds
open Go.RowKit
open Go.Proofs.Ytgilfjojimgpaaa.Vm Go.Proofs.Ytgilfjojimgpaaa.Vo Go.Proofs.Ytgilfjojimgpaaa.Vf Go.Proofs.Ytgilfjojimgpaaa.Bw Go.Proofs.Ytgilfjojimgpaaa.Bm Go.Proofs.Ytgilfjojimgpaaa.Qm Go.Proofs.Ytgilfjojimgpaaa.Qa Go.Proofs.Ytgilfjojimgpaaa.Qb Go.Proofs.Ytgilfjojimgpaaa.Qc Go.Proofs.Ytgilfjojimgpaaa.Qd Go.Proofs.Ytgilfjojimgpaaa.Qf Go.Proofs.Ytgilfjojimgpaaa.Qg Go.Proofs.Ytgilfjojimgpaaa.Qn Go.Proofs.Ytgilfjojimgpaaa.Qk Go.Proofs.Ytgilfjojimgpaaa.Qw

set_option maxHeartbeats 4000000 in
set_option maxRecDepth 100000 in
theorem walk (t : Int) (e n c : ByteArray) (v o : Int) (x m : Bool) (f : Int) (hw : Qy.hdW t e n c v o f) (w : World) :
    Calls Try.prog 3 #[.agg (cs9 t e n c v o x m f)] w fun e' w' => e' = .returned (.bool true) ∧ Below w.heap.size w w' := by
  have hf := i64_b hw.f
  have HL := Lib.hid (light_any t e n c v o x m f)
  obtain ⟨bl, hbl⟩ : ∃ b, b = liB e n c := ⟨_, rfl⟩
  rw [← hbl] at HL
  obtain ⟨w1, hw1⟩ : ∃ w1, w1 = w.alloc (.cells (cs9 t e n c v o x m f) 23) := ⟨_, rfl⟩
  have K1 : Hid (Blk w1 w.heap.size 23 (cs9 t e n c v o x m f)) := Lib.hid (by rw [hw1]; exact Blk.fresh w _ _)
  have B1 : Hid (Below w.heap.size w w1) := Lib.hid (by rw [hw1]; exact (Below.refl _ w).alloc (Nat.le_refl _) _)
  cases bl
  · clear hbl hf hw
    go_enter Try.func3, Try.ntmps3
    go_wp2_with fail
    rw [← hw1]
    refine (HL.out w1).mono ?_
    rintro e' w2 ⟨rfl, b2⟩
    have B2 := Lib.hid (grows B1.out b2)
    clear b2 hw1
    go_wp2_with (go_at_call 8; refine (known_any _).mono ?_; rintro e' w3 ⟨rfl, b3⟩)
    go_ret
    exact ⟨rfl, grows B2.out b3⟩
  · obtain ⟨le1, le2, le3⟩ := li_of hbl.symm
    obtain ⟨β, hβ⟩ := right_bool (hq t e n c v o x m f)
    have HR := Lib.hid (Right_is hβ hf.1 hf.2)
    have HRR := Lib.hid (rRight_is hβ (by omega) (by omega))
    have HB := Lib.hid (Build_is hβ hf.1 hf.2 (by omega) (by omega))
    have HRB := Lib.hid (rBuild_is hβ (by omega) (by omega))
    generalize bdS (hq t e n c v o x m f) β = S at *
    generalize bdE β = E at *
    clear hβ le1 le2 le3 hbl hf hw
    go_enter Try.func3, Try.ntmps3
    go_wp2_with fail
    rw [← hw1]
    refine (HL.out w1).mono ?_
    rintro e' w2 ⟨rfl, b2⟩
    have K2 := K1.out.below b2
    have B2 := Lib.hid (grows B1.out b2)
    clear b2 hw1 K1 B1
    obtain ⟨n0, n1, n2, n3, n4, n5, n6, n7, n8⟩ := nine K2
    go_wp2_with fail
    clear n0 n1 n2 n3 n4 n5 n6 n7 n8
    refine (HB.out w2).mono ?_
    rintro e' w3 ⟨rfl, b3⟩
    have K3 := K2.below b3
    have B3 := Lib.hid (grows B2.out b3)
    clear b3 K2 B2
    obtain ⟨n0, n1, n2, n3, n4, n5, n6, n7, n8⟩ := nine K3
    go_wp2_with fail
    clear n0 n1 n2 n3 n4 n5 n6 n7 n8
    refine (HRB.out w3).mono ?_
    rintro e' w4 ⟨rfl, b4⟩
    have K4 := K3.below b4
    have B4 := Lib.hid (grows B3.out b4)
    clear b4 K3 B3
    have C := nine K4
    obtain ⟨n0, n1, n2, n3, n4, n5, n6, n7, n8⟩ := nine K4
    clear K4
    go_wp2_with fail
    go_region_held3 (fun u => u.cell? ⟨w.heap.size, 0, none⟩ = some (.int .i64 t) ∧ u.cell? ⟨w.heap.size, 1, none⟩ = some (.string e) ∧ u.cell? ⟨w.heap.size, 2, none⟩ = some (.string n) ∧ u.cell? ⟨w.heap.size, 3, none⟩ = some (.string c) ∧ u.cell? ⟨w.heap.size, 4, none⟩ = some (.int .i64 v) ∧ u.cell? ⟨w.heap.size, 5, none⟩ = some (.int .i64 o) ∧ u.cell? ⟨w.heap.size, 6, none⟩ = some (.bool x) ∧ u.cell? ⟨w.heap.size, 7, none⟩ = some (.bool m) ∧ u.cell? ⟨w.heap.size, 8, none⟩ = some (.int .i64 f) ∧ Below w.heap.size w u)
      (first | exact ⟨C.1, C.2.1, C.2.2.1, C.2.2.2.1, C.2.2.2.2.1, C.2.2.2.2.2.1, C.2.2.2.2.2.2.1, C.2.2.2.2.2.2.2.1, C.2.2.2.2.2.2.2.2, B4.out.drew⟩ | assumption | (apply keep9; assumption; assumption))
      (first | (go_at_call 11; refine (HR.out _).mono ?_; rintro e w' ⟨rfl, hb⟩) | (go_at_call 12; refine (HRR.out _).mono ?_; rintro e w' ⟨rfl, hb⟩) | (go_at_call 8; refine (known_any _).mono ?_; rintro e w' ⟨rfl, hb⟩))
    have hB := (show _ ∧ _ ∧ _ ∧ _ ∧ _ ∧ _ ∧ _ ∧ _ ∧ _ ∧ Below w.heap.size w _ by assumption).2.2.2.2.2.2.2.2.2
    go_wp2
    go_ret
    exact ⟨rfl, hB⟩
end Go.Proofs.Ytgilfjojimgpaaa.gzheadBuilds
