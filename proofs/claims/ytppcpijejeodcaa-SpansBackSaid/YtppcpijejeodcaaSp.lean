/-
  spans: Length, Dist, OfLength, OfDist.
  Conditions: none but that the numbers are ints.
-/
import Derived.Test.YtppcpijejeodcaaSb
namespace Go.Proofs.Ytppcpijejeodcaa.Sp
open Go.RowKit Go.Proofs.Ytppcpijejeodcaa.Vm Go.Proofs.Ytppcpijejeodcaa.Na Go.Proofs.Ytppcpijejeodcaa.Bw Go.Proofs.Ytppcpijejeodcaa.Sm Go.Proofs.Ytppcpijejeodcaa.Sb

/-- What Length and Dist answer. -/
def lenA (z : Int) : Value := if 257 ≤ z ∧ z ≤ 285 then .tuple #[.int .i64 (lB (z - 257).toNat), .int .i64 (lb (z - 257).toNat), .bool true] else .tuple #[.int .i64 0, .int .i64 0, .bool false]
def disA (z : Int) : Value := if 0 ≤ z ∧ z ≤ 29 then .tuple #[.int .i64 (dB z.toNat), .int .i64 (fb 2 z.toNat), .bool true] else .tuple #[.int .i64 0, .int .i64 0, .bool false]
theorem ret4 {a b c a' c' : Int} {e : Value} (h : a = a') (h2 : c = c') : Ending.returned (.tuple #[.int .i64 a, .int .i64 b, .int .i64 c, e]) = .returned (.tuple #[.int .i64 a', .int .i64 b, .int .i64 c', e]) := by rw [h, h2]
/-- What OfLength and OfDist answer. -/
def ofL (z : Int) : Value := if 3 ≤ z ∧ z ≤ 258 then .tuple #[.int .i64 (257 + lS z.toNat : Nat), .int .i64 (lb (lS z.toNat)), .int .i64 (z.toNat - lB (lS z.toNat) : Nat), .int .i64 0] else .tuple #[.int .i64 0, .int .i64 0, .int .i64 0, .int .i64 1]
def ofD (z : Int) : Value := if 1 ≤ z ∧ z ≤ 32768 then .tuple #[.int .i64 (dS z.toNat), .int .i64 (fb 2 (dS z.toNat)), .int .i64 (z.toNat - dB (dS z.toNat) : Nat), .int .i64 0] else .tuple #[.int .i64 0, .int .i64 0, .int .i64 0, .int .i64 1]
theorem lenA_in {z : Int} {k : Nat} (hz : z - 257 = (k : Int)) (h : k ≤ 28) : lenA z = .tuple #[.int .i64 (lB k), .int .i64 (lb k), .bool true] := by
  unfold lenA
  rw [if_pos (by omega), show (z - 257).toNat = k by omega]
theorem lenA_out {z : Int} (h : z < 257 ∨ 285 < z) : lenA z = .tuple #[.int .i64 0, .int .i64 0, .bool false] := by
  unfold lenA; rw [if_neg (by omega)]
theorem disA_in {k : Nat} (h : k < 30) : disA (k : Int) = .tuple #[.int .i64 (dB k), .int .i64 (fb 2 k), .bool true] := by
  unfold disA
  rw [if_pos (by omega), Int.toNat_natCast]
theorem disA_out {z : Int} (h : z < 0 ∨ 29 < z) : disA z = .tuple #[.int .i64 0, .int .i64 0, .bool false] := by
  unfold disA; rw [if_neg (by omega)]
theorem ofL_in {n : Nat} (h : 3 ≤ n) (h2 : n ≤ 258) : ofL (n : Int) = .tuple #[.int .i64 (257 + lS n : Nat), .int .i64 (lb (lS n)), .int .i64 (n - lB (lS n) : Nat), .int .i64 0] := by
  unfold ofL; rw [if_pos (by omega), Int.toNat_natCast]
theorem ofL_out {z : Int} (h : z < 3 ∨ 258 < z) : ofL z = .tuple #[.int .i64 0, .int .i64 0, .int .i64 0, .int .i64 1] := by
  unfold ofL; rw [if_neg (by omega)]
theorem ofD_in {n : Nat} (h : 1 ≤ n) (h2 : n ≤ 32768) : ofD (n : Int) = .tuple #[.int .i64 (dS n), .int .i64 (fb 2 (dS n)), .int .i64 (n - dB (dS n) : Nat), .int .i64 0] := by
  unfold ofD; rw [if_pos (by omega), Int.toNat_natCast]
theorem ofD_out {z : Int} (h : z < 1 ∨ 32768 < z) : ofD z = .tuple #[.int .i64 0, .int .i64 0, .int .i64 0, .int .i64 1] := by
  unfold ofD; rw [if_neg (by omega)]

set_option maxRecDepth 100000 in
theorem Length_any {z : Int} (h0 : -9223372036854775808 ≤ z) (h1 : z ≤ 9223372036854775807) (w : World) :
    Calls Try.prog 7 #[.int .i64 z] w fun e w' => e = .returned (lenA z) ∧ Below w.heap.size w w' := by
  rcases (show z < 257 ∨ 285 < z ∨ (257 ≤ z ∧ z ≤ 285) by omega) with h | h | h
  · rw [lenA_out (.inl h)]
    go_enter Try.func7, Try.ntmps7
    go_wp2
    go_ret3
    exact ⟨rfl, Below.refl _ _⟩
  · rw [lenA_out (.inr h)]
    have h' : ¬ z < 257 := by omega
    go_enter Try.func7, Try.ntmps7
    go_wp2
    go_ret3
    exact ⟨rfl, Below.refl _ _⟩
  · obtain ⟨k, hzk⟩ : ∃ k : Nat, z - 257 = (k : Int) := ⟨(z - 257).toNat, by omega⟩
    have hk : k ≤ 28 := by omega
    rw [lenA_in hzk hk]
    have hz1 : ¬ z < 257 := by omega
    have hz2 : ¬ 286 ≤ z := by omega
    obtain ⟨F, hF⟩ : ∃ F, F = arr 29 (fun i => (lB i : Int)) := ⟨_, rfl⟩
    have hIx := run_index_arr 33 29 Try.underlying33 F k (by omega) (.int .i64 (lB k)) (by rw [hF, arr_get _ (by omega)])
    have HB := Lib.hid lengthBases_any
    rw [← hF] at HB
    have HL := Lib.hid (lengthBits_any hk)
    clear hF
    generalize lb k = q at *
    generalize lB k = x at *
    have hk' : ((k : Int) < 29) := by omega
    go_enter Try.func7, Try.ntmps7
    go_wp2
    go_region_held3 (fun w' => Below w.heap.size w w')
      (first | exact below_drew (Below.refl _ _) | assumption | (apply grows; assumption; assumption))
      (first | (go_at_call 16; refine (HB.out _).mono ?_; rintro e w' ⟨rfl, hb⟩) | (go_at_call 17; refine (HL.out _).mono ?_; rintro e w' ⟨rfl, rfl⟩))
    all_goals
      go_wp2
      go_ret3
      exact ⟨rfl, by assumption⟩

set_option maxRecDepth 100000 in
theorem Dist_any {z : Int} (h0 : -9223372036854775808 ≤ z) (h1 : z ≤ 9223372036854775807) (w : World) :
    Calls Try.prog 9 #[.int .i64 z] w fun e w' => e = .returned (disA z) ∧ Below w.heap.size w w' := by
  rcases (show z < 0 ∨ 29 < z ∨ (0 ≤ z ∧ z ≤ 29) by omega) with h | h | h
  · rw [disA_out (.inl h)]
    go_enter Try.func9, Try.ntmps9
    go_wp2
    go_ret3
    exact ⟨rfl, Below.refl _ _⟩
  · rw [disA_out (.inr h)]
    have h' : ¬ z < 0 := by omega
    go_enter Try.func9, Try.ntmps9
    go_wp2
    go_ret3
    exact ⟨rfl, Below.refl _ _⟩
  · obtain ⟨k, rfl⟩ : ∃ k : Nat, z = (k : Int) := ⟨z.toNat, by omega⟩
    have hk : k < 30 := by omega
    rw [disA_in hk]
    obtain ⟨F, hF⟩ : ∃ F, F = arr 30 (fun i => (dB i : Int)) := ⟨_, rfl⟩
    have hIx := run_index_arr 37 30 Try.underlying37 F k (by omega) (.int .i64 (dB k)) (by rw [hF, arr_get _ (by omega)])
    have HB := Lib.hid distBases_any
    rw [← hF] at HB
    have HL := Lib.hid (distBits_any hk)
    clear hF
    generalize fb 2 k = q at *
    generalize dB k = x at *
    have hk' : ((k : Int) < 30) := by omega
    go_enter Try.func9, Try.ntmps9
    go_wp2
    go_region_held3 (fun w' => Below w.heap.size w w')
      (first | exact below_drew (Below.refl _ _) | assumption | (apply grows; assumption; assumption))
      (first | (go_at_call 19; refine (HB.out _).mono ?_; rintro e w' ⟨rfl, hb⟩) | (go_at_call 20; refine (HL.out _).mono ?_; rintro e w' ⟨rfl, rfl⟩))
    all_goals
      go_wp2
      go_ret3
      exact ⟨rfl, by assumption⟩

theorem last29 (z : Nat) (g cap : Nat) {w : World} (h : Blk w g 33 (arr 29 (fun i => (lB i : Int)))) :
    Calls Try.prog 21 #[.slice (some ⟨g, 0, none⟩) 29 cap, .int .i64 z] w fun e w' => e = .returned (.int .i64 (lS z)) ∧ w = w' :=
  lastUpTo_any (m := 28) (by omega) (Lib.hid (row_of_blk h))
theorem last30 (z : Nat) (g cap : Nat) {w : World} (h : Blk w g 37 (arr 30 (fun i => (dB i : Int)))) :
    Calls Try.prog 21 #[.slice (some ⟨g, 0, none⟩) 30 cap, .int .i64 z] w fun e w' => e = .returned (.int .i64 (dS z)) ∧ w = w' :=
  lastUpTo_any (m := 29) (by omega) (Lib.hid (row_of_blk h))

set_option maxRecDepth 100000 in
theorem OfLength_any {z : Int} (h0 : -9223372036854775808 ≤ z) (h1 : z ≤ 9223372036854775807) (w : World) :
    Calls Try.prog 12 #[.int .i64 z] w fun e w' => e = .returned (ofL z) ∧ Below w.heap.size w w' := by
  rcases (show z < 3 ∨ 258 < z ∨ (3 ≤ z ∧ z ≤ 258) by omega) with h | h | h
  · rw [ofL_out (.inl h)]
    go_enter Try.func12, Try.ntmps12
    go_wp2
    refine bodyPost_ret (results_tmp4 rfl _ _ _) rfl ?_
    exact ⟨rfl, Below.refl _ _⟩
  · rw [ofL_out (.inr h)]
    have h' : ¬ z < 3 := by omega
    go_enter Try.func12, Try.ntmps12
    go_wp2
    refine bodyPost_ret (results_tmp4 rfl _ _ _) rfl ?_
    exact ⟨rfl, Below.refl _ _⟩
  · obtain ⟨n, rfl⟩ : ∃ n : Nat, z = (n : Int) := ⟨z.toNat, by omega⟩
    have hn3 : 3 ≤ n := by omega
    have hn8 : n ≤ 258 := by omega
    rw [ofL_in hn3 hn8]
    have hk := lS_le n
    have hlo := lS_lo hn3
    obtain ⟨F, hF⟩ : ∃ F, F = arr 29 (fun i => (lB i : Int)) := ⟨_, rfl⟩
    obtain ⟨Z, hZ⟩ : ∃ Z, Z = arr 29 (fun _ => (0 : Int)) := ⟨_, rfl⟩
    obtain ⟨hz, hsz⟩ := zero_of_info infoL
    rw [arr_zero, ← hZ] at hz
    have q1 := Lib.hid (show (Try.prog.info? 33).map (·.size) = some F.size by rw [hF, arr_size]; exact hsz)
    have q2 := Lib.hid (show Z.size = F.size by rw [hF, hZ, arr_size, arr_size])
    have q3 := Lib.hid (show F.all (·.oneCell') = true by rw [hF]; exact arr_one 29 _)
    have HB := Lib.hid lengthBases_any
    rw [← hF] at HB
    have HFF := Lib.hid hF
    have HS := Lib.hid (fun (g cap : Nat) (w : World) (h : Blk w g 33 F) => last29 n g cap (by rw [← hF]; exact h))
    have HL := Lib.hid (lengthBits_any hk)
    have HK : Hid (F[lS n]? = some (.int .i64 (lB (lS n)))) := Lib.hid (by rw [hF, arr_get _ (by omega)])
    clear hF hZ hsz
    generalize lS n = k at *
    generalize lb k = q at *
    generalize lB k = x at *
    go_enter Try.func12, Try.ntmps12
    go_wp2_with fail
    refine (HB.out _).mono ?_
    rintro e w1 ⟨rfl, b1⟩
    go_wp2_with (refine wpList_store_row rfl 33 _ _ rfl w1.heap.size F rfl rfl _ _ (Blk.fresh w1 33 Z) q1.out q2.out q3.out ?_; rw [World.setRow_alloc_new])
    have HF2 := Lib.hid (Blk.fresh w1 33 F)
    have B2 := Lib.hid (grows b1 (below_alloc w1 (.cells F 33)))
    generalize w1.alloc (.cells F 33) = w2 at *
    generalize w1.heap.size = g at *
    clear b1 hz
    refine (HS.out _ _ _ HF2.out).mono ?_
    rintro e w3 ⟨rfl, rfl⟩
    have hc : w2.cell? ⟨g, k, none⟩ = some (.int .i64 x) := by rw [HF2.out.cell]; exact HK.out
    have hk' : ((k : Int) < 29) := by omega
    go_wp2
    go_region_held3 (fun w' => w'.cell? ⟨g, k, none⟩ = some (.int .i64 x) ∧ Below w.heap.size w w')
      (first | exact ⟨hc, below_drew B2.out⟩ | assumption)
      (first | (go_at_call 17; refine (HL.out _).mono ?_; rintro e w' ⟨rfl, rfl⟩))
    go_wp2
    refine bodyPost_ret (results_tmp4 rfl _ _ _) rfl ?_
    exact ⟨ret4 (by rw [IntWalk.i64_in _ (by omega)]; omega) (by rw [IntWalk.i64_in _ (by omega)]; omega), (show _ ∧ Below w.heap.size w _ by assumption).2⟩
set_option maxRecDepth 100000 in
theorem OfDist_any {z : Int} (h0 : -9223372036854775808 ≤ z) (h1 : z ≤ 9223372036854775807) (w : World) :
    Calls Try.prog 14 #[.int .i64 z] w fun e w' => e = .returned (ofD z) ∧ Below w.heap.size w w' := by
  rcases (show z < 1 ∨ 32768 < z ∨ (1 ≤ z ∧ z ≤ 32768) by omega) with h | h | h
  · rw [ofD_out (.inl h)]
    go_enter Try.func14, Try.ntmps14
    go_wp2
    refine bodyPost_ret (results_tmp4 rfl _ _ _) rfl ?_
    exact ⟨rfl, Below.refl _ _⟩
  · rw [ofD_out (.inr h)]
    have h' : ¬ z < 1 := by omega
    go_enter Try.func14, Try.ntmps14
    go_wp2
    refine bodyPost_ret (results_tmp4 rfl _ _ _) rfl ?_
    exact ⟨rfl, Below.refl _ _⟩
  · obtain ⟨n, rfl⟩ : ∃ n : Nat, z = (n : Int) := ⟨z.toNat, by omega⟩
    have hn3 : 1 ≤ n := by omega
    have hn8 : n ≤ 32768 := by omega
    rw [ofD_in hn3 hn8]
    have hk := dS_le n
    have hlo := dS_lo hn3
    obtain ⟨F, hF⟩ : ∃ F, F = arr 30 (fun i => (dB i : Int)) := ⟨_, rfl⟩
    obtain ⟨Z, hZ⟩ : ∃ Z, Z = arr 30 (fun _ => (0 : Int)) := ⟨_, rfl⟩
    obtain ⟨hz, hsz⟩ := zero_of_info infoD
    rw [arr_zero, ← hZ] at hz
    have q1 := Lib.hid (show (Try.prog.info? 37).map (·.size) = some F.size by rw [hF, arr_size]; exact hsz)
    have q2 := Lib.hid (show Z.size = F.size by rw [hF, hZ, arr_size, arr_size])
    have q3 := Lib.hid (show F.all (·.oneCell') = true by rw [hF]; exact arr_one 30 _)
    have HB := Lib.hid distBases_any
    rw [← hF] at HB
    have HFF := Lib.hid hF
    have HS := Lib.hid (fun (g cap : Nat) (w : World) (h : Blk w g 37 F) => last30 n g cap (by rw [← hF]; exact h))
    have HL := Lib.hid (distBits_any (show dS n < 30 by omega))
    have HK : Hid (F[dS n]? = some (.int .i64 (dB (dS n)))) := Lib.hid (by rw [hF, arr_get _ (by omega)])
    clear hF hZ hsz
    generalize dS n = k at *
    generalize fb 2 k = q at *
    generalize dB k = x at *
    go_enter Try.func14, Try.ntmps14
    go_wp2_with fail
    refine (HB.out _).mono ?_
    rintro e w1 ⟨rfl, b1⟩
    go_wp2_with (refine wpList_store_row rfl 37 _ _ rfl w1.heap.size F rfl rfl _ _ (Blk.fresh w1 37 Z) q1.out q2.out q3.out ?_; rw [World.setRow_alloc_new])
    have HF2 := Lib.hid (Blk.fresh w1 37 F)
    have B2 := Lib.hid (grows b1 (below_alloc w1 (.cells F 37)))
    generalize w1.alloc (.cells F 37) = w2 at *
    generalize w1.heap.size = g at *
    clear b1 hz
    refine (HS.out _ _ _ HF2.out).mono ?_
    rintro e w3 ⟨rfl, rfl⟩
    have hc : w2.cell? ⟨g, k, none⟩ = some (.int .i64 x) := by rw [HF2.out.cell]; exact HK.out
    have hk' : ((k : Int) < 30) := by omega
    go_wp2
    go_region_held3 (fun w' => w'.cell? ⟨g, k, none⟩ = some (.int .i64 x) ∧ Below w.heap.size w w')
      (first | exact ⟨hc, below_drew B2.out⟩ | assumption)
      (first | (go_at_call 20; refine (HL.out _).mono ?_; rintro e w' ⟨rfl, rfl⟩))
    go_wp2
    refine bodyPost_ret (results_tmp4 rfl _ _ _) rfl ?_
    exact ⟨ret4 rfl (by rw [IntWalk.i64_in _ (by omega)]; omega), (show _ ∧ Below w.heap.size w _ by assumption).2⟩
end Go.Proofs.Ytppcpijejeodcaa.Sp
