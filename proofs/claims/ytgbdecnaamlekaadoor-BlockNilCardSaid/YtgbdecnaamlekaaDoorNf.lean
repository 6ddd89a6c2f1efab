/-
  lens.Codes: what is wrong, or the codes in a row of the call's own.
  Conditions: none but the row.
-/
import Derived.Test.YtgbdecnaamlekaaDoorNe
import Derived.Laws.MakeOwn
import Derived.OwnWalk
namespace Go.Proofs.YtgbdecnaamlekaaDoor.Nf
open Go.RowKit Go.Proofs.YtgbdecnaamlekaaDoor.Vm Go.Proofs.YtgbdecnaamlekaaDoor.Na Go.Proofs.YtgbdecnaamlekaaDoor.Nm Go.Proofs.YtgbdecnaamlekaaDoor.Bw Go.Proofs.YtgbdecnaamlekaaDoor.Ni Go.Proofs.YtgbdecnaamlekaaDoor.Nc Go.Proofs.YtgbdecnaamlekaaDoor.Nd Go.Proofs.YtgbdecnaamlekaaDoor.Ne

theorem infoI : (Tryd.prog.info? 3).map (fun i => (i.zero, i.size, i.bytes)) = some (some (.int .i64 0), 1, 8) := by kernel_rfl
theorem made (n : Nat) (hn : n ≤ 1000000) (u : World) : (Instr.makeSlice 31 (.int .i64 (n : Int)) (.int .i64 (n : Int))).run Tryd.prog u = .ok (.slice (some ⟨u.heap.size, 0, none⟩) n n) (u.alloc (.cells (arr n (fun _ => 0)) 3)) := by
  obtain ⟨i0, hi, hz0, hz1, hz2⟩ := info_parts infoI
  have h := run_make (P := Tryd.prog) u 31 3 i0 (.int .i64 0) Tryd.underlying31 hi hz0 .i64 .i64 (n : Int) (n : Int) (by omega) (by omega) (by rw [hz2]; omega) (by omega)
  have e : madeCells (Value.int .i64 0).cells (n * i0.size) = arr n (fun _ => 0) := by
    rw [hz1]
    apply Array.ext
    · simp [madeCells, arr]
    · intro j h1 h2
      simp [madeCells, arr, Value.cells]
      simp [Nat.mod_one]
  simp only [Int.toNat_natCast, e] at h
  exact h

theorem first_n {n : Nat} {f : Nat → Int} (hn : n ≤ 320) (w : World) :
    Calls Tryd.prog 94 #[.agg (arr 16 (fun i => (ct (L n f) i : Int)))] w fun e w' => e = .returned (.agg (arr 16 (fun i => (fst (L n f) i : Int)))) ∧ Below w.heap.size w w' :=
  first_any (by rw [L_length]; exact hn) w

set_option maxRecDepth 100000 in
theorem Codes_no {A : Option Addr} {n cap : Nat} {f : Nat → Int} (hn : n ≤ 9223372036854775807) (he : err n f ≠ 0) {w : World} (HC : Hid (row w A n f)) :
    Calls Tryd.prog 79 #[.slice A n cap] w fun e w' => e = .returned (.tuple #[.slice none 0 0, .int .i64 (err n f)]) ∧ Below w.heap.size w w' := by
  have HU := Lib.hid (uncodable_any (cap := cap) hn HC)
  obtain ⟨e, hee⟩ : ∃ e, e = err n f := ⟨_, rfl⟩
  rw [← hee] at HU he ⊢
  clear hee HC
  go_enter Tryd.func79, Tryd.ntmps79
  go_wp2_with fail
  refine HU.out.mono ?_
  rintro e w' ⟨rfl, b1⟩
  go_wp2
  go_ret2
  exact ⟨rfl, b1⟩

theorem next_zero (l : List Nat) : arr 16 (fun i => (fst l i : Int)) = arr 16 (fun i => ((fst l i + ct (l.take 0) i : Nat) : Int)) := arr_congr (fun i _ => by simp [ct_nil])
theorem codes_zero (l : List Nat) (n : Nat) : arr n (fun _ => 0) = arr n (fun i => if i < 0 then (code l i : Int) else 0) := arr_congr (fun i _ => by rw [if_neg (by omega)])

set_option maxHeartbeats 400000 in
set_option maxRecDepth 100000 in
theorem Codes_ok {A : Option Addr} {n cap : Nat} {f : Nat → Int} (he : err n f = 0) {w : World} (HC : Hid (row w A n f)) :
    Calls Tryd.prog 79 #[.slice A n cap] w fun e w' => ∃ g, e = .returned (.tuple #[.slice (some ⟨g, 0, none⟩) n n, .int .i64 0]) ∧ Blk w' g 3 (arr n (fun i => (code (L n f) i : Int))) ∧ w.heap.size ≤ g ∧ Below w.heap.size w w' := by
  obtain ⟨h1, h2, h3⟩ := err_zero he
  have hU := uncodable_any (cap := cap) (by omega) HC
  rw [he] at hU
  have HU := Lib.hid hU
  have HF := Lib.hid h2
  have H15 := Lib.hid (L_le h2)
  have HR := Lib.hid (L_row h2 HC.out)
  obtain ⟨hz, hsz⟩ := zero_of_info infoA
  rw [arr_zero] at hz
  have hmk := made n (by omega)
  have HZ := Lib.hid hsz
  clear hU h2 h3 he hsz
  go_enter Tryd.func79, Tryd.ntmps79
  go_wp2_with fail
  refine HU.out.mono ?_
  rintro e w1 ⟨rfl, b1⟩
  have HC1 := Lib.hid (HC.out.below b1)
  have B1 := Lib.hid b1
  clear b1
  go_wp2_with fail
  refine (count_n h1 HF.out HC1).mono ?_
  rintro e w2 ⟨rfl, b2⟩
  have B2 := Lib.hid (grows B1.out b2)
  clear b2
  go_wp2_with fail
  refine (first_n h1 _).mono ?_
  rintro e w3 ⟨rfl, b3⟩
  have B3 := Lib.hid (grows B2.out b3)
  clear b3
  obtain ⟨l, hl⟩ : ∃ l, l = L n f := ⟨_, rfl⟩
  have hln : Hid (l.length = n) := Lib.hid (by rw [hl, L_length])
  rw [← hl] at H15 HR ⊢
  obtain ⟨F, hF⟩ : ∃ F, F = arr 16 (fun i => (fst l i : Int)) := ⟨_, rfl⟩
  obtain ⟨Z, hZ⟩ : ∃ Z, Z = arr 16 (fun _ => 0) := ⟨_, rfl⟩
  have q1 := Lib.hid (show (Tryd.prog.info? 112).map (·.size) = some F.size by rw [hF, arr_size]; exact HZ.out)
  have q2 := Lib.hid (show Z.size = F.size by rw [hF, hZ, arr_size, arr_size])
  have q3 := Lib.hid (show F.all (·.oneCell') = true by rw [hF]; exact arr_one 16 _)
  rw [← hF]
  rw [← hZ] at hz
  have HFF := Lib.hid hF
  have HLL := Lib.hid hl
  clear hF hZ hl
  go_wp2_with (refine wpList_store_row rfl 112 _ _ rfl w3.heap.size F rfl rfl _ _ (Blk.fresh w3 112 Z) q1.out q2.out q3.out ?_; rw [World.setRow_alloc_new])
  go_loopw [22] (fun i wr => ∃ k : Nat, i = .int .i64 k ∧ k ≤ n ∧ Hid (Blk wr w3.heap.size 112 (arr 16 (fun i => ((fst l i + ct (l.take k) i : Nat) : Int)))) ∧ Hid (Blk wr (w3.heap.size + 1) 3 (arr n (fun i => if i < k then (code l i : Int) else 0))) ∧ Hid (Below w.heap.size w wr))
    (fun i _ => n - (intOf i).toNat)
  case atStart =>
    have s1 := (Blk.fresh w3 112 F).below (below_alloc _ (.cells (arr n (fun _ => 0)) 3))
    have s2 := Blk.fresh (w3.alloc (.cells F 112)) 3 (arr n (fun _ => 0))
    rw [size_alloc, codes_zero l] at s2
    rw [HFF.out, next_zero] at s1
    refine ⟨0, rfl, by omega, Lib.hid ?_, Lib.hid ?_, Lib.hid (grows B3.out (grows (below_alloc _ _) (below_alloc _ _)))⟩
    · rw [HFF.out, next_zero]; exact s1
    · rw [codes_zero l]; exact s2
  case round =>
    obtain ⟨k, rfl, hk, HN, HT, HB⟩ := hrel
    clear hz hmk
    have HG := Lib.hid (show w.heap.size ≤ w3.heap.size from B3.out.size)
    by_cases hkn : k < n
    · have hkl : Hid (k < l.length) := Lib.hid (by rw [hln.out]; exact hkn)
      obtain ⟨b, off, rfl, hbl, hc0⟩ := HR.out.get (k := k) hkl.out
      have hc := (HB.out.cell (p := ⟨b, off + k, none⟩) hbl).trans hc0
      clear hc0
      have HCode : Hid (code l k = fst l (nth l k) + ct (l.take k) (nth l k)) := Lib.hid rfl
      obtain ⟨x, hx⟩ : ∃ x, x = nth l k := ⟨_, rfl⟩
      rw [← hx] at hc HCode
      have hx15 : x ≤ 15 := by rw [hx]; exact H15.out k
      have HX := Lib.hid hx
      clear hx
      rcases Nat.eq_zero_or_pos x with rfl | h0
      · go_wp2
        go_roundw
        case rel =>
          refine ⟨k + 1, by go_num, by omega, Lib.hid ?_, Lib.hid ?_, HB⟩
          · have h := HN.out
            rw [arr_congr (g := fun i => ((fst l i + ct (l.take (k + 1)) i : Nat) : Int)) (fun i _ => ?_)] at h
            · exact h
            · rw [ct_next hkl.out, if_neg (by have := HX.out; omega)]; rfl
          · have h := HT.out
            rw [arr_congr (g := fun i => if i < k + 1 then (code l i : Int) else 0) (fun i _ => ?_)] at h
            · exact h
            · by_cases e : i < k
              · rw [if_pos e, if_pos (by omega)]
              · rw [if_neg e]
                by_cases e2 : i = k
                · rw [if_pos (by omega), e2, HCode.out]; rfl
                · rw [if_neg (by omega)]
        case measure => simp [intOf]; omega
      · obtain ⟨y, hy⟩ : ∃ y, y = fst l x + ct (l.take k) x := ⟨_, rfl⟩
        have hyb : y ≤ 65536 * 320 := by
          have := fst_le l x
          have h3 := ct_take_le (l := l) (j := k) x
          have h2 : 2 ^ (x + 1) * l.length ≤ 2 ^ 16 * 320 := Nat.mul_le_mul (Nat.pow_le_pow_right (by omega) (by omega)) (by rw [hln.out]; exact h1)
          omega
        have hty : wr.cell? ⟨w3.heap.size, x, none⟩ = some (.int .i64 y) := by rw [HN.out.cell, arr_get _ (by omega), hy]
        have hfr := HN.out.frozen x
        have htz : wr.cell? ⟨w3.heap.size + 1, k, none⟩ = some (.int .i64 0) := by rw [HT.out.cell, arr_get _ (by omega), if_neg (by omega)]
        have hfz := HT.out.frozen k
        rw [← hy] at HCode
        have HY := Lib.hid hy
        clear hy
        go_wp2
        go_roundw
        case rel =>
          refine ⟨k + 1, by go_num, by omega, Lib.hid ?_, Lib.hid ?_, Lib.hid ((HB.out.setCell (by have := HG.out; show _ ≤ _ + 1; omega) _).setCell HG.out _)⟩
          · have h := (HN.out.apartStore (p := ⟨w3.heap.size + 1, k, none⟩) (u := .int .i64 y) (show w3.heap.size ≠ w3.heap.size + 1 by omega)).store x (.int .i64 (y + 1))
            rw [arr_set, arr_congr (g := fun i => ((fst l i + ct (l.take (k + 1)) i : Nat) : Int)) (fun i _ => ?_)] at h
            · exact h
            · rw [ct_next hkl.out, ← HX.out]
              by_cases e : i = x
              · rw [if_pos e, if_pos ⟨e, by omega⟩, e, HY.out]; omega
              · rw [if_neg e, if_neg (fun h => e h.1)]; rfl
          · have h := (HT.out.store k (.int .i64 y)).apartStore (p := ⟨w3.heap.size, x, none⟩) (u := .int .i64 (y + 1)) (show w3.heap.size + 1 ≠ w3.heap.size by omega)
            rw [arr_set, arr_congr (g := fun i => if i < k + 1 then (code l i : Int) else 0) (fun i _ => ?_)] at h
            · exact h
            · by_cases e : i = k
              · rw [if_pos e, if_pos (by omega), e, HCode.out]
              · rw [if_neg e]
                by_cases e2 : i < k
                · rw [if_pos e2, if_pos (by omega)]
                · rw [if_neg e2, if_neg (by omega)]
        case measure => simp [intOf]; omega
    · have hk8 := Lib.hid (show k = n by omega)
      have HT' : Hid (Blk wr (w3.heap.size + 1) 3 (arr n (fun i => (code l i : Int)))) := by
        rw [arr_congr (g := fun i => (code l i : Int)) (fun i hi => if_pos (by have := hk8.out; omega))] at HT; exact HT
      go_wp2
      go_ret2
      exact ⟨w3.heap.size + 1, rfl, by rw [← HLL.out]; exact HT'.out, by have := HG.out; omega, HB.out⟩
end Go.Proofs.YtgbdecnaamlekaaDoor.Nf
