/-
  The program's show.
  Conditions: as each theorem says.
-/
import Derived.Test.YtabcehifdomolaaDoorQas
import Derived.Test.YtabcehifdomolaaDoorQan
import Derived.Test.YtabcehifdomolaaDoorQaj
import Derived.Test.YtabcehifdomolaaDoorQba
namespace Go.Proofs.YtabcehifdomolaaDoor.Esh
open Go.RowKit Go.PlainAid Go.Proofs.YtabcehifdomolaaDoor.Vm Go.Proofs.YtabcehifdomolaaDoor.Vo Go.Proofs.YtabcehifdomolaaDoor.Bw Go.Proofs.YtabcehifdomolaaDoor.Na Go.Proofs.YtabcehifdomolaaDoor.Ko Go.Proofs.YtabcehifdomolaaDoor.Tm Go.Proofs.YtabcehifdomolaaDoor.Ts Go.Proofs.YtabcehifdomolaaDoor.Ta Go.Proofs.YtabcehifdomolaaDoor.Tb Go.Proofs.YtabcehifdomolaaDoor.Tf Go.Proofs.YtabcehifdomolaaDoor.Tn Go.Proofs.YtabcehifdomolaaDoor.Rm Go.Proofs.YtabcehifdomolaaDoor.Rs Go.Proofs.YtabcehifdomolaaDoor.Rv Go.Proofs.YtabcehifdomolaaDoor.Ra Go.Proofs.YtabcehifdomolaaDoor.Re Go.Proofs.YtabcehifdomolaaDoor.Rf Go.Proofs.YtabcehifdomolaaDoor.Rg Go.Proofs.YtabcehifdomolaaDoor.Rk Go.Proofs.YtabcehifdomolaaDoor.Rn Go.Proofs.YtabcehifdomolaaDoor.Ro Go.Proofs.YtabcehifdomolaaDoor.Eb Go.Proofs.YtabcehifdomolaaDoor.Ec Go.Proofs.YtabcehifdomolaaDoor.Ed Go.Proofs.YtabcehifdomolaaDoor.Ee Go.Proofs.YtabcehifdomolaaDoor.Ef Go.Proofs.YtabcehifdomolaaDoor.Eh Go.Proofs.YtabcehifdomolaaDoor.Ej Go.Proofs.YtabcehifdomolaaDoor.Etb Go.Proofs.YtabcehifdomolaaDoor.Esg Go.Proofs.YtabcehifdomolaaDoor.Een Go.Proofs.YtabcehifdomolaaDoor.Eli Go.Proofs.YtabcehifdomolaaDoor.Ez

theorem okTs_mem : ∀ {l : List T} {u : T}, okTs l → u ∈ l → okT u
  | [], _, _, hu => absurd hu (by simp)
  | t :: l, u, h, hu => by
    unfold okTs at h
    rcases List.mem_cons.1 hu with rfl | hu
    · exact h.1
    · exact okTs_mem h.2 hu
theorem okT_kid {t u : T} (h : okT t) (hu : u ∈ kidsT t) : okT u := by
  cases t with
  | set a => exact absurd hu (by simp [kidsT])
  | emp => exact absurd hu (by simp [kidsT])
  | cat l => unfold okT at h; exact okTs_mem h.2 hu
  | alt l => unfold okT at h; exact okTs_mem h.2 hu
  | star t => unfold okT at h; obtain rfl : u = t := by simpa [kidsT] using hu
              exact h
  | plus t => unfold okT at h; obtain rfl : u = t := by simpa [kidsT] using hu
              exact h
  | opt t => unfold okT at h; obtain rfl : u = t := by simpa [kidsT] using hu
             exact h
  | rep lo hi t => unfold okT at h; obtain rfl : u = t := by simpa [kidsT] using hu
                   exact h.2.2
theorem join_none : ∀ ls : List (List Nat), joinQ [] ls = ls.flatten
  | [] => rfl
  | x :: r => by unfold joinQ; simp
theorem hd_alt (t : T) : isK [4] (hd t).k = Rt.isAlt t := by cases t <;> rfl
theorem hd_cat (t : T) : isK [4, 3] (hd t).k = (Rt.isAlt t || Rt.isCat t) := by cases t <;> rfl
theorem hd_atm (t : T) : isK [3, 4, 5, 6, 7, 8] (hd t).k = !Rt.isAtm t := by cases t <;> rfl
theorem txC_join : ∀ ts : List T, joinQ [] (ts.map (ptx [4, 3])) = Rt.txC ts := by
  intro ts
  rw [join_none]
  induction ts with
  | nil => rfl
  | cons t l ih =>
    rw [List.map_cons, List.flatten_cons, ih, Rt.txC]
    unfold ptx
    rw [hd_cat]
theorem txB_join : ∀ ts : List T, ((ts.map (ptx [4])).map ([124] ++ ·)).flatten = Rt.txB ts
  | [] => rfl
  | t :: l => by
    rw [List.map_cons, List.map_cons, List.flatten_cons, txB_join l, Rt.txB]
    unfold ptx
    rw [hd_alt]
    rfl
theorem txA_join : ∀ ts : List T, joinQ [124] (ts.map (ptx [4])) = Rt.txA ts
  | [] => rfl
  | t :: l => by
    rw [List.map_cons]
    show ptx [4] t ++ _ = _
    rw [txB_join l, Rt.txA]
    unfold ptx
    rw [hd_alt]
theorem one_join (u : T) : joinQ [] ([u].map (ptx [3, 4, 5, 6, 7, 8])) = Rt.par (!Rt.isAtm u) (Rt.tx u) := by
  rw [join_none]
  unfold ptx
  rw [List.map_cons, List.map_nil, List.flatten_cons, List.flatten_nil, List.append_nil, hd_atm]
theorem row_two (w : World) : row (w.alloc (.cells #[.int .i64 4, .int .i64 3] 3)) (some ⟨w.heap.size, 0, none⟩) 2 (fun i => (Een.nth [4, 3] i : Int)) := fun i hi => ⟨w.heap.size, 0, rfl, by rw [size_alloc]; omega, by
  have h := Blk.fresh w 3 #[.int .i64 4, .int .i64 3]
  rw [Nat.zero_add]
  match i, hi with
  | 0, _ => exact h.cell 0
  | 1, _ => exact h.cell 1⟩
theorem row_one (w : World) : row (w.alloc (.cells #[.int .i64 4] 3)) (some ⟨w.heap.size, 0, none⟩) 1 (fun i => (Een.nth [4] i : Int)) := fun i hi => ⟨w.heap.size, 0, rfl, by rw [size_alloc]; omega, by
  have h := Blk.fresh w 3 #[.int .i64 4]
  rw [Nat.zero_add]
  match i, hi with
  | 0, _ => exact h.cell 0⟩
theorem row_six (w : World) : row (w.alloc (.cells #[.int .i64 3, .int .i64 4, .int .i64 5, .int .i64 6, .int .i64 7, .int .i64 8] 3)) (some ⟨w.heap.size, 0, none⟩) 6 (fun i => (Een.nth [3, 4, 5, 6, 7, 8] i : Int)) := fun i hi => ⟨w.heap.size, 0, rfl, by rw [size_alloc]; omega, by
  have h := Blk.fresh w 3 #[.int .i64 3, .int .i64 4, .int .i64 5, .int .i64 6, .int .i64 7, .int .i64 8]
  rw [Nat.zero_add]
  match i, hi with
  | 0, _ => exact h.cell 0
  | 1, _ => exact h.cell 1
  | 2, _ => exact h.cell 2
  | 3, _ => exact h.cell 3
  | 4, _ => exact h.cell 4
  | 5, _ => exact h.cell 5⟩
set_option maxHeartbeats 4000000 in
set_option maxRecDepth 100000 in
theorem show_all : ∀ (m : Nat) (t : T), (enc t).length ≤ m → (enc t).length ≤ 400 → okT t → shows t := by
  intro m
  induction m with
  | zero => intro t hm; exact absurd hm (by have := enc_pos t; omega)
  | succ m ih =>
  intro t hm hN4 hok w v hv htab
  have hN : (enc t).length ≤ 1000000 := by omega
  have HT := Lib.hid htab
  have HOK := Lib.hid hok
  obtain ⟨A, cap, rfl, hcap, h⟩ := hv
  have HAsk : Hid (∀ u ∈ kidsT t, shows u) := Lib.hid (fun u hu => ih u (by have := kid_less hu; omega) (by have := kid_less hu; omega) (okT_kid hok hu))
  have HLEN : Hid (∀ u ∈ kidsT t, (enc u).length ≤ 1000 ∧ (Rt.tx u).length ≤ 1000000) := Lib.hid (fun u hu => by have h1 := kid_less hu; have h2 := tx_len u; omega)
  have HK4 : Hid ((kidsT t).length ≤ 400) := Lib.hid (by
    have h1 := encs_le (kidsT t)
    have h2 := congrArg List.length (enc_hd t)
    rw [List.length_cons] at h2
    omega)
  have HTL : Hid ((Rt.tx t).length ≤ 1000000) := Lib.hid (by have := tx_len t; omega)
  clear hok htab hN4
  have HKL : Hid ((kidsT t).length ≤ 1000000) := Lib.hid (by
    have h1 := encs_le (kidsT t)
    have h2 := congrArg List.length (enc_hd t)
    rw [List.length_cons] at h2
    omega)
  have HCh : Hid (∀ w', Below w.heap.size w w' → Calls Tryd.prog 27 #[.slice A (enc t).length cap] w' fun e w'' => ∃ v L, e = .returned v ∧ vs w'' w'.heap.size 22 v L ∧ kidV w L (kidsT t) ∧ Below w'.heap.size w' w'') := Lib.hid (fun w' b => children_any hN hcap (Lib.hid h) (Lib.hid b))
  obtain ⟨b, off, rfl, hb, hp⟩ := h _ _ (tat_zero t).node
  have hpos : (0 : Int) < ((enc t).length : Int) := by have := enc_pos t; omega
  have HCells : Hid (∀ w', Below w.heap.size w w' → nd1 w' b off (hd t)) := Lib.hid (fun w' k => by
    have := hp.below hb (k.mono (Nat.le_refl _))
    rwa [show off + 0 * 8 = off by omega] at this)
  obtain ⟨N, hN'⟩ : ∃ N, N = (enc t).length := ⟨_, rfl⟩
  rw [← hN'] at HCh hpos
  have hposN : 0 < N := by omega
  rw [← hN']
  clear h hm ih hp hb hN' hN hcap
  have hq0 := HCells.out w (Below.refl _ _)
  obtain ⟨x0, x1, x2, x3, hs, a2, a3, a4, a5⟩ := hq0.four
  have a0 := hq0.c0
  have a1 := hq0.c1
  have a6 := hq0.c6
  have a7 := hq0.c7
  have HS : Hid (∀ w', Below w.heap.size w w' → w'.cell? ⟨b, off, none⟩ = some (.int .i64 (hd t).k) ∧ w'.cell? ⟨b, off + 1, none⟩ = some (.int .i64 (hd t).n) ∧ w'.cell? ⟨b, off + 2, none⟩ = some (.int .u64 (x0 : Int)) ∧ w'.cell? ⟨b, off + 3, none⟩ = some (.int .u64 (x1 : Int)) ∧ w'.cell? ⟨b, off + 4, none⟩ = some (.int .u64 (x2 : Int)) ∧ w'.cell? ⟨b, off + 5, none⟩ = some (.int .u64 (x3 : Int)) ∧ w'.cell? ⟨b, off + 6, none⟩ = some (.int .i64 (hd t).lo) ∧ w'.cell? ⟨b, off + 7, none⟩ = some (.int .i64 (hd t).hi)) := Lib.hid (fun w' k => by
    have q := HCells.out w' k
    refine ⟨q.c0, q.c1, q.cs 0 x0 (by rw [hs]; rfl), q.cs 1 x1 (by rw [hs]; rfl), q.cs 2 x2 (by rw [hs]; rfl), q.cs 3 x3 (by rw [hs]; rfl), q.c6, q.c7⟩)
  have HXS := Lib.hid hs
  clear hq0 hs HCells
  cases t with
  | set a =>
    dsimp only [hd, kidsT] at a0 a1 a6 a7 HS HCh HAsk HKL HLEN HK4 HXS
    have RA : Blk (w.alloc (.cells #[.int .i64 0, .int .i64 0, .int .u64 0, .int .u64 0, .int .u64 0, .int .u64 0, .int .i64 0, .int .i64 0] 38)).drew w.heap.size 38 #[.int .i64 0, .int .i64 0, .int .u64 0, .int .u64 0, .int .u64 0, .int .u64 0, .int .i64 0, .int .i64 0] := Blk.fresh w _ _
    have BE : Below w.heap.size w (w.alloc (.cells #[.int .i64 0, .int .i64 0, .int .u64 0, .int .u64 0, .int .u64 0, .int .u64 0, .int .i64 0, .int .i64 0] 38)).drew := (below_alloc w _).drew
    have RB : Blk (w.alloc (.cells #[.int .i64 1, .int .i64 0, .int .u64 (x0 : Int), .int .u64 (x1 : Int), .int .u64 (x2 : Int), .int .u64 (x3 : Int), .int .i64 0, .int .i64 0] 38)).drew w.heap.size 38 #[.int .i64 1, .int .i64 0, .int .u64 (x0 : Int), .int .u64 (x1 : Int), .int .u64 (x2 : Int), .int .u64 (x3 : Int), .int .i64 0, .int .i64 0] := Blk.fresh w _ _
    have BF : Below w.heap.size w (w.alloc (.cells #[.int .i64 1, .int .i64 0, .int .u64 (x0 : Int), .int .u64 (x1 : Int), .int .u64 (x2 : Int), .int .u64 (x3 : Int), .int .i64 0, .int .i64 0] 38)).drew := (below_alloc w _).drew
    have HRB := Lib.hid RB
    have HBF := Lib.hid BF
    have HSA : Hid ((w.alloc (.cells #[.int .i64 0, .int .i64 0, .int .u64 0, .int .u64 0, .int .u64 0, .int .u64 0, .int .i64 0, .int .i64 0] 38)).drew.heap.size = w.heap.size + 1) := Lib.hid (size_alloc _ _)
    have HRA := Lib.hid RA
    have HBE := Lib.hid BE
    clear RA BE RB BF
    go_enter Tryd.func20, Tryd.ntmps20
    go_upto_region 1 with fail
    go_cut [3, 4] (fun s3 s4 wx => ∃ (g : Nat) (v : Value) (L : List Value), s3 = .pointer (some ⟨g, 0, none⟩) ∧ s4 = v ∧ Hid (Blk wx g 38 #[.int .i64 1, .int .i64 0, .int .u64 (x0 : Int), .int .u64 (x1 : Int), .int .u64 (x2 : Int), .int .u64 (x3 : Int), .int .i64 0, .int .i64 0]) ∧ Hid (∃ base, vs wx base 22 v L) ∧ Hid (kidV w L []) ∧ Hid (Below w.heap.size w wx))
    case first =>
      have KD := And.intro (HS.out w.drew (below_draws w 1)) (below_draws w 1)
      obtain ⟨⟨b0, b1, b2, b3, b4, b5, b6, b7⟩, bd⟩ := KD
      go_region_held3 (fun u => u.cell? ⟨b, off, none⟩ = some (.int .i64 1) ∧ u.cell? ⟨b, off + 1, none⟩ = some (.int .i64 0) ∧ u.cell? ⟨b, off + 2, none⟩ = some (.int .u64 (x0 : Int)) ∧ u.cell? ⟨b, off + 3, none⟩ = some (.int .u64 (x1 : Int)) ∧ u.cell? ⟨b, off + 4, none⟩ = some (.int .u64 (x2 : Int)) ∧ u.cell? ⟨b, off + 5, none⟩ = some (.int .u64 (x3 : Int)) ∧ u.cell? ⟨b, off + 6, none⟩ = some (.int .i64 0) ∧ u.cell? ⟨b, off + 7, none⟩ = some (.int .i64 0) ∧ Below w.heap.size w u)
        (first | (with_reducible exact and9 (HS.out _ HBE.out) HBE.out) | (with_reducible exact and9 (HS.out _ HBF.out) HBF.out) | (with_reducible exact and9 (HS.out _ (KB1.alloc KB1.size _)) (KB1.alloc KB1.size _)) | (with_reducible exact and9 (HS.out _ (over8_below KB1 (Nat.le_refl _) KB1.size (.int .i64 1) (.int .i64 0) (.int .u64 (x0 : Int)) (.int .u64 (x1 : Int)) (.int .u64 (x2 : Int)) (.int .u64 (x3 : Int)) (.int .i64 0) (.int .i64 0))) (over8_below KB1 (Nat.le_refl _) KB1.size (.int .i64 1) (.int .i64 0) (.int .u64 (x0 : Int)) (.int .u64 (x1 : Int)) (.int .u64 (x2 : Int)) (.int .u64 (x3 : Int)) (.int .i64 0) (.int .i64 0))) | (exact ⟨b0, b1, b2, b3, b4, b5, b6, b7, bd⟩) | (exact ⟨c0, c1, c2, c3, c4, c5, c6, c7, KB1⟩) | assumption)
        (first | (go_at_call 27; refine (HCh.out _ (by first | (with_reducible exact bd) | (with_reducible exact HBE.out) | (with_reducible exact HBF.out) | exact below_draws w 1)).mono ?_; rintro e w1 ⟨v1, L1, rfl, hv1, hk1, k1⟩; have KB1 := grows (show Below w.heap.size w _ by first | (with_reducible exact bd) | (with_reducible exact HBE.out) | (with_reducible exact HBF.out) | exact below_draws w 1) k1; obtain ⟨c0, c1, c2, c3, c4, c5, c6, c7⟩ := HS.out w1 KB1; have HV1 := Lib.hid hv1; have HK1 := Lib.hid hk1; have HK9 := Lib.hid k1; clear hv1 hk1; try (obtain ⟨⟨r0, r1, r2, r3, r4, r5, r6, r7⟩, f0, f1, f2, f3, f4, f5, f6, f7⟩ := eight_blk (Blk.below HRA.out k1)); clear k1))
      all_goals
        simp only [Exit.then]
        go_wp2
        go_meet
        first
        | (with_reducible exact ⟨_, _, L1, rfl, rfl, Lib.hid (Blk.fresh w1 _ _), Lib.hid ⟨_, HV1.out.below (below_alloc w1 _)⟩, HK1, Lib.hid (KB1.alloc KB1.size _)⟩)
        | (with_reducible exact ⟨_, _, L1, rfl, rfl, Lib.hid (Blk.below HRB.out HK9.out), Lib.hid ⟨_, HV1.out⟩, HK1, Lib.hid KB1⟩)
        | (with_reducible exact ⟨_, _, L1, rfl, rfl, Lib.hid (over8_blk (Blk.below HRA.out HK9.out) (.int .i64 1) (.int .i64 0) (.int .u64 (x0 : Int)) (.int .u64 (x1 : Int)) (.int .u64 (x2 : Int)) (.int .u64 (x3 : Int)) (.int .i64 0) (.int .i64 0)), Lib.hid ⟨_, HV1.out.only (over8_only w1 w.heap.size (.int .i64 1) (.int .i64 0) (.int .u64 (x0 : Int)) (.int .u64 (x1 : Int)) (.int .u64 (x2 : Int)) (.int .u64 (x3 : Int)) (.int .i64 0) (.int .i64 0)) (fun i hi e => by have h1 := HV1.out.lo i hi; have h2 := HSA.out; omega)⟩, HK1, Lib.hid (over8_below KB1 (Nat.le_refl _) KB1.size (.int .i64 1) (.int .i64 0) (.int .u64 (x0 : Int)) (.int .u64 (x1 : Int)) (.int .u64 (x2 : Int)) (.int .u64 (x3 : Int)) (.int .i64 0) (.int .i64 0))⟩)
    case rest =>
      obtain ⟨g, v, L, rfl, rfl, HR, HVV, HK, HB⟩ := hcut
      obtain ⟨⟨r0, r1, r2, r3, r4, r5, r6, r7⟩, _⟩ := eight_blk HR.out
      obtain ⟨bs, hvs⟩ := HVV.out
      have HVS := Lib.hid hvs
      have HKC := Lib.hid (kidV.below HK.out HB.out)
      obtain ⟨AV, CV, hav, _⟩ := hvs.le
      subst hav
      rw [HKC.out.1] at HVS ⊢
      clear hvs HVV HK HCh HS HRA HBE HRB HBF
      generalize wc = wc at *
      have hxs : a = [x0, x1, x2, x3] := HXS.out
      subst hxs
      have HSW : Hid (Calls Tryd.prog 28 #[.agg #[.int .u64 (x0 : Int), .int .u64 (x1 : Int), .int .u64 (x2 : Int), .int .u64 (x3 : Int)]] wc fun e w' => e = .returned (.string (str (Rt.tx (.set [x0, x1, x2, x3])))) ∧ Below wc.heap.size wc w') := Lib.hid (by have h := Show_any (a := [x0, x1, x2, x3]) (by have := HOK.out; unfold okT at this; exact this.1) wc; rw [str_shN] at h; exact h)
      go_wp2_with (go_at_call 28; refine HSW.out.mono ?_; rintro e w9 ⟨rfl, k9⟩; have K9 := Lib.hid k9; clear k9)
      go_ret
      exact ⟨rfl, grows HB.out K9.out⟩
  | emp =>
    dsimp only [hd, kidsT] at a0 a1 a6 a7 HS HCh HAsk HKL HLEN HK4 HXS
    have RA : Blk (w.alloc (.cells #[.int .i64 0, .int .i64 0, .int .u64 0, .int .u64 0, .int .u64 0, .int .u64 0, .int .i64 0, .int .i64 0] 38)).drew w.heap.size 38 #[.int .i64 0, .int .i64 0, .int .u64 0, .int .u64 0, .int .u64 0, .int .u64 0, .int .i64 0, .int .i64 0] := Blk.fresh w _ _
    have BE : Below w.heap.size w (w.alloc (.cells #[.int .i64 0, .int .i64 0, .int .u64 0, .int .u64 0, .int .u64 0, .int .u64 0, .int .i64 0, .int .i64 0] 38)).drew := (below_alloc w _).drew
    have RB : Blk (w.alloc (.cells #[.int .i64 2, .int .i64 0, .int .u64 (x0 : Int), .int .u64 (x1 : Int), .int .u64 (x2 : Int), .int .u64 (x3 : Int), .int .i64 0, .int .i64 0] 38)).drew w.heap.size 38 #[.int .i64 2, .int .i64 0, .int .u64 (x0 : Int), .int .u64 (x1 : Int), .int .u64 (x2 : Int), .int .u64 (x3 : Int), .int .i64 0, .int .i64 0] := Blk.fresh w _ _
    have BF : Below w.heap.size w (w.alloc (.cells #[.int .i64 2, .int .i64 0, .int .u64 (x0 : Int), .int .u64 (x1 : Int), .int .u64 (x2 : Int), .int .u64 (x3 : Int), .int .i64 0, .int .i64 0] 38)).drew := (below_alloc w _).drew
    have HRB := Lib.hid RB
    have HBF := Lib.hid BF
    have HSA : Hid ((w.alloc (.cells #[.int .i64 0, .int .i64 0, .int .u64 0, .int .u64 0, .int .u64 0, .int .u64 0, .int .i64 0, .int .i64 0] 38)).drew.heap.size = w.heap.size + 1) := Lib.hid (size_alloc _ _)
    have HRA := Lib.hid RA
    have HBE := Lib.hid BE
    clear RA BE RB BF
    go_enter Tryd.func20, Tryd.ntmps20
    go_upto_region 1 with fail
    go_cut [3, 4] (fun s3 s4 wx => ∃ (g : Nat) (v : Value) (L : List Value), s3 = .pointer (some ⟨g, 0, none⟩) ∧ s4 = v ∧ Hid (Blk wx g 38 #[.int .i64 2, .int .i64 0, .int .u64 (x0 : Int), .int .u64 (x1 : Int), .int .u64 (x2 : Int), .int .u64 (x3 : Int), .int .i64 0, .int .i64 0]) ∧ Hid (∃ base, vs wx base 22 v L) ∧ Hid (kidV w L []) ∧ Hid (Below w.heap.size w wx))
    case first =>
      have KD := And.intro (HS.out w.drew (below_draws w 1)) (below_draws w 1)
      obtain ⟨⟨b0, b1, b2, b3, b4, b5, b6, b7⟩, bd⟩ := KD
      go_region_held3 (fun u => u.cell? ⟨b, off, none⟩ = some (.int .i64 2) ∧ u.cell? ⟨b, off + 1, none⟩ = some (.int .i64 0) ∧ u.cell? ⟨b, off + 2, none⟩ = some (.int .u64 (x0 : Int)) ∧ u.cell? ⟨b, off + 3, none⟩ = some (.int .u64 (x1 : Int)) ∧ u.cell? ⟨b, off + 4, none⟩ = some (.int .u64 (x2 : Int)) ∧ u.cell? ⟨b, off + 5, none⟩ = some (.int .u64 (x3 : Int)) ∧ u.cell? ⟨b, off + 6, none⟩ = some (.int .i64 0) ∧ u.cell? ⟨b, off + 7, none⟩ = some (.int .i64 0) ∧ Below w.heap.size w u)
        (first | (with_reducible exact and9 (HS.out _ HBE.out) HBE.out) | (with_reducible exact and9 (HS.out _ HBF.out) HBF.out) | (with_reducible exact and9 (HS.out _ (KB1.alloc KB1.size _)) (KB1.alloc KB1.size _)) | (with_reducible exact and9 (HS.out _ (over8_below KB1 (Nat.le_refl _) KB1.size (.int .i64 2) (.int .i64 0) (.int .u64 (x0 : Int)) (.int .u64 (x1 : Int)) (.int .u64 (x2 : Int)) (.int .u64 (x3 : Int)) (.int .i64 0) (.int .i64 0))) (over8_below KB1 (Nat.le_refl _) KB1.size (.int .i64 2) (.int .i64 0) (.int .u64 (x0 : Int)) (.int .u64 (x1 : Int)) (.int .u64 (x2 : Int)) (.int .u64 (x3 : Int)) (.int .i64 0) (.int .i64 0))) | (exact ⟨b0, b1, b2, b3, b4, b5, b6, b7, bd⟩) | (exact ⟨c0, c1, c2, c3, c4, c5, c6, c7, KB1⟩) | assumption)
        (first | (go_at_call 27; refine (HCh.out _ (by first | (with_reducible exact bd) | (with_reducible exact HBE.out) | (with_reducible exact HBF.out) | exact below_draws w 1)).mono ?_; rintro e w1 ⟨v1, L1, rfl, hv1, hk1, k1⟩; have KB1 := grows (show Below w.heap.size w _ by first | (with_reducible exact bd) | (with_reducible exact HBE.out) | (with_reducible exact HBF.out) | exact below_draws w 1) k1; obtain ⟨c0, c1, c2, c3, c4, c5, c6, c7⟩ := HS.out w1 KB1; have HV1 := Lib.hid hv1; have HK1 := Lib.hid hk1; have HK9 := Lib.hid k1; clear hv1 hk1; try (obtain ⟨⟨r0, r1, r2, r3, r4, r5, r6, r7⟩, f0, f1, f2, f3, f4, f5, f6, f7⟩ := eight_blk (Blk.below HRA.out k1)); clear k1))
      all_goals
        simp only [Exit.then]
        go_wp2
        go_meet
        first
        | (with_reducible exact ⟨_, _, L1, rfl, rfl, Lib.hid (Blk.fresh w1 _ _), Lib.hid ⟨_, HV1.out.below (below_alloc w1 _)⟩, HK1, Lib.hid (KB1.alloc KB1.size _)⟩)
        | (with_reducible exact ⟨_, _, L1, rfl, rfl, Lib.hid (Blk.below HRB.out HK9.out), Lib.hid ⟨_, HV1.out⟩, HK1, Lib.hid KB1⟩)
        | (with_reducible exact ⟨_, _, L1, rfl, rfl, Lib.hid (over8_blk (Blk.below HRA.out HK9.out) (.int .i64 2) (.int .i64 0) (.int .u64 (x0 : Int)) (.int .u64 (x1 : Int)) (.int .u64 (x2 : Int)) (.int .u64 (x3 : Int)) (.int .i64 0) (.int .i64 0)), Lib.hid ⟨_, HV1.out.only (over8_only w1 w.heap.size (.int .i64 2) (.int .i64 0) (.int .u64 (x0 : Int)) (.int .u64 (x1 : Int)) (.int .u64 (x2 : Int)) (.int .u64 (x3 : Int)) (.int .i64 0) (.int .i64 0)) (fun i hi e => by have h1 := HV1.out.lo i hi; have h2 := HSA.out; omega)⟩, HK1, Lib.hid (over8_below KB1 (Nat.le_refl _) KB1.size (.int .i64 2) (.int .i64 0) (.int .u64 (x0 : Int)) (.int .u64 (x1 : Int)) (.int .u64 (x2 : Int)) (.int .u64 (x3 : Int)) (.int .i64 0) (.int .i64 0))⟩)
    case rest =>
      obtain ⟨g, v, L, rfl, rfl, HR, HVV, HK, HB⟩ := hcut
      obtain ⟨⟨r0, r1, r2, r3, r4, r5, r6, r7⟩, _⟩ := eight_blk HR.out
      obtain ⟨bs, hvs⟩ := HVV.out
      have HVS := Lib.hid hvs
      have HKC := Lib.hid (kidV.below HK.out HB.out)
      obtain ⟨AV, CV, hav, _⟩ := hvs.le
      subst hav
      rw [HKC.out.1] at HVS ⊢
      clear hvs HVV HK HCh HS HRA HBE HRB HBF
      generalize wc = wc at *
      go_wp2
      go_ret
      exact ⟨rfl, HB.out⟩
  | cat ts =>
    dsimp only [hd, kidsT] at a0 a1 a6 a7 HS HCh HAsk HKL HLEN HK4 HXS
    have RA : Blk (w.alloc (.cells #[.int .i64 0, .int .i64 0, .int .u64 0, .int .u64 0, .int .u64 0, .int .u64 0, .int .i64 0, .int .i64 0] 38)).drew w.heap.size 38 #[.int .i64 0, .int .i64 0, .int .u64 0, .int .u64 0, .int .u64 0, .int .u64 0, .int .i64 0, .int .i64 0] := Blk.fresh w _ _
    have BE : Below w.heap.size w (w.alloc (.cells #[.int .i64 0, .int .i64 0, .int .u64 0, .int .u64 0, .int .u64 0, .int .u64 0, .int .i64 0, .int .i64 0] 38)).drew := (below_alloc w _).drew
    have RB : Blk (w.alloc (.cells #[.int .i64 3, .int .i64 (ts.length : Int), .int .u64 (x0 : Int), .int .u64 (x1 : Int), .int .u64 (x2 : Int), .int .u64 (x3 : Int), .int .i64 0, .int .i64 0] 38)).drew w.heap.size 38 #[.int .i64 3, .int .i64 (ts.length : Int), .int .u64 (x0 : Int), .int .u64 (x1 : Int), .int .u64 (x2 : Int), .int .u64 (x3 : Int), .int .i64 0, .int .i64 0] := Blk.fresh w _ _
    have BF : Below w.heap.size w (w.alloc (.cells #[.int .i64 3, .int .i64 (ts.length : Int), .int .u64 (x0 : Int), .int .u64 (x1 : Int), .int .u64 (x2 : Int), .int .u64 (x3 : Int), .int .i64 0, .int .i64 0] 38)).drew := (below_alloc w _).drew
    have HRB := Lib.hid RB
    have HBF := Lib.hid BF
    have HSA : Hid ((w.alloc (.cells #[.int .i64 0, .int .i64 0, .int .u64 0, .int .u64 0, .int .u64 0, .int .u64 0, .int .i64 0, .int .i64 0] 38)).drew.heap.size = w.heap.size + 1) := Lib.hid (size_alloc _ _)
    have HRA := Lib.hid RA
    have HBE := Lib.hid BE
    clear RA BE RB BF
    go_enter Tryd.func20, Tryd.ntmps20
    go_upto_region 1 with fail
    go_cut [3, 4] (fun s3 s4 wx => ∃ (g : Nat) (v : Value) (L : List Value), s3 = .pointer (some ⟨g, 0, none⟩) ∧ s4 = v ∧ Hid (Blk wx g 38 #[.int .i64 3, .int .i64 (ts.length : Int), .int .u64 (x0 : Int), .int .u64 (x1 : Int), .int .u64 (x2 : Int), .int .u64 (x3 : Int), .int .i64 0, .int .i64 0]) ∧ Hid (∃ base, vs wx base 22 v L) ∧ Hid (kidV w L ts) ∧ Hid (Below w.heap.size w wx))
    case first =>
      have KD := And.intro (HS.out w.drew (below_draws w 1)) (below_draws w 1)
      obtain ⟨⟨b0, b1, b2, b3, b4, b5, b6, b7⟩, bd⟩ := KD
      go_region_held3 (fun u => u.cell? ⟨b, off, none⟩ = some (.int .i64 3) ∧ u.cell? ⟨b, off + 1, none⟩ = some (.int .i64 (ts.length : Int)) ∧ u.cell? ⟨b, off + 2, none⟩ = some (.int .u64 (x0 : Int)) ∧ u.cell? ⟨b, off + 3, none⟩ = some (.int .u64 (x1 : Int)) ∧ u.cell? ⟨b, off + 4, none⟩ = some (.int .u64 (x2 : Int)) ∧ u.cell? ⟨b, off + 5, none⟩ = some (.int .u64 (x3 : Int)) ∧ u.cell? ⟨b, off + 6, none⟩ = some (.int .i64 0) ∧ u.cell? ⟨b, off + 7, none⟩ = some (.int .i64 0) ∧ Below w.heap.size w u)
        (first | (with_reducible exact and9 (HS.out _ HBE.out) HBE.out) | (with_reducible exact and9 (HS.out _ HBF.out) HBF.out) | (with_reducible exact and9 (HS.out _ (KB1.alloc KB1.size _)) (KB1.alloc KB1.size _)) | (with_reducible exact and9 (HS.out _ (over8_below KB1 (Nat.le_refl _) KB1.size (.int .i64 3) (.int .i64 (ts.length : Int)) (.int .u64 (x0 : Int)) (.int .u64 (x1 : Int)) (.int .u64 (x2 : Int)) (.int .u64 (x3 : Int)) (.int .i64 0) (.int .i64 0))) (over8_below KB1 (Nat.le_refl _) KB1.size (.int .i64 3) (.int .i64 (ts.length : Int)) (.int .u64 (x0 : Int)) (.int .u64 (x1 : Int)) (.int .u64 (x2 : Int)) (.int .u64 (x3 : Int)) (.int .i64 0) (.int .i64 0))) | (exact ⟨b0, b1, b2, b3, b4, b5, b6, b7, bd⟩) | (exact ⟨c0, c1, c2, c3, c4, c5, c6, c7, KB1⟩) | assumption)
        (first | (go_at_call 27; refine (HCh.out _ (by first | (with_reducible exact bd) | (with_reducible exact HBE.out) | (with_reducible exact HBF.out) | exact below_draws w 1)).mono ?_; rintro e w1 ⟨v1, L1, rfl, hv1, hk1, k1⟩; have KB1 := grows (show Below w.heap.size w _ by first | (with_reducible exact bd) | (with_reducible exact HBE.out) | (with_reducible exact HBF.out) | exact below_draws w 1) k1; obtain ⟨c0, c1, c2, c3, c4, c5, c6, c7⟩ := HS.out w1 KB1; have HV1 := Lib.hid hv1; have HK1 := Lib.hid hk1; have HK9 := Lib.hid k1; clear hv1 hk1; try (obtain ⟨⟨r0, r1, r2, r3, r4, r5, r6, r7⟩, f0, f1, f2, f3, f4, f5, f6, f7⟩ := eight_blk (Blk.below HRA.out k1)); clear k1))
      all_goals
        simp only [Exit.then]
        go_wp2
        go_meet
        first
        | (with_reducible exact ⟨_, _, L1, rfl, rfl, Lib.hid (Blk.fresh w1 _ _), Lib.hid ⟨_, HV1.out.below (below_alloc w1 _)⟩, HK1, Lib.hid (KB1.alloc KB1.size _)⟩)
        | (with_reducible exact ⟨_, _, L1, rfl, rfl, Lib.hid (Blk.below HRB.out HK9.out), Lib.hid ⟨_, HV1.out⟩, HK1, Lib.hid KB1⟩)
        | (with_reducible exact ⟨_, _, L1, rfl, rfl, Lib.hid (over8_blk (Blk.below HRA.out HK9.out) (.int .i64 3) (.int .i64 (ts.length : Int)) (.int .u64 (x0 : Int)) (.int .u64 (x1 : Int)) (.int .u64 (x2 : Int)) (.int .u64 (x3 : Int)) (.int .i64 0) (.int .i64 0)), Lib.hid ⟨_, HV1.out.only (over8_only w1 w.heap.size (.int .i64 3) (.int .i64 (ts.length : Int)) (.int .u64 (x0 : Int)) (.int .u64 (x1 : Int)) (.int .u64 (x2 : Int)) (.int .u64 (x3 : Int)) (.int .i64 0) (.int .i64 0)) (fun i hi e => by have h1 := HV1.out.lo i hi; have h2 := HSA.out; omega)⟩, HK1, Lib.hid (over8_below KB1 (Nat.le_refl _) KB1.size (.int .i64 3) (.int .i64 (ts.length : Int)) (.int .u64 (x0 : Int)) (.int .u64 (x1 : Int)) (.int .u64 (x2 : Int)) (.int .u64 (x3 : Int)) (.int .i64 0) (.int .i64 0))⟩)
    case rest =>
      obtain ⟨g, v, L, rfl, rfl, HR, HVV, HK, HB⟩ := hcut
      obtain ⟨⟨r0, r1, r2, r3, r4, r5, r6, r7⟩, _⟩ := eight_blk HR.out
      obtain ⟨bs, hvs⟩ := HVV.out
      have HVS := Lib.hid hvs
      have HKC := Lib.hid (kidV.below HK.out HB.out)
      obtain ⟨AV, CV, hav, _⟩ := hvs.le
      subst hav
      rw [HKC.out.1] at HVS ⊢
      clear hvs HVV HK HCh HS HRA HBE HRB HBF
      generalize wc = wc at *
      have HLI : Hid (Calls Tryd.prog 29 #[.slice AV ts.length CV, .string (str []), .slice (some ⟨wc.heap.size, 0, none⟩) 2 2] (wc.alloc (.cells #[.int .i64 4, .int .i64 3] 3)) fun e w' => e = .returned (.string (str (Rt.tx (.cat ts)))) ∧ Below wc.heap.size wc w') := Lib.hid (by
        have hj : joinQ [] (ts.map (ptx [4, 3])) = Rt.tx (.cat ts) := by rw [txC_join, Rt.tx]
        have hok : 2 ≤ ts.length := by have := HOK.out; unfold okT at this; exact this.1
        refine (list_any (ts := ts) (ks := [4, 3]) (sep := []) (by rintro rfl; simp at hok) (by have := HK4.out; omega) (by decide) (w0 := wc) (Lib.hid (below_alloc wc _)) (Lib.hid (HVS.out.below (below_alloc wc _))) HKC (Lib.hid (row_two wc)) (Lib.hid (HT.out.below (grows HB.out (below_alloc wc _)))) HAsk HLEN.out (by rw [hj]; have := HTL.out; omega)).mono ?_
        rintro e w' ⟨h1, h2⟩
        exact ⟨by rw [h1, hj], grows (below_alloc wc _) h2⟩)
      obtain ⟨X, hX⟩ : ∃ X, X = str (Rt.tx (.cat ts)) := ⟨_, rfl⟩
      rw [← hX] at HLI
      have HX := Lib.hid hX
      clear hX
      obtain ⟨nn, hnn⟩ : ∃ nn, nn = ts.length := ⟨_, rfl⟩
      rw [← hnn] at HLI ⊢
      try rw [← hnn] at r1
      clear hnn
      go_wp2_with (go_at_call 29; refine HLI.out.mono ?_; rintro e w9 ⟨rfl, k9⟩; have K9 := Lib.hid k9; clear k9)
      go_ret
      exact ⟨retS HX.out, grows HB.out K9.out⟩
  | alt ts =>
    dsimp only [hd, kidsT] at a0 a1 a6 a7 HS HCh HAsk HKL HLEN HK4 HXS
    have RA : Blk (w.alloc (.cells #[.int .i64 0, .int .i64 0, .int .u64 0, .int .u64 0, .int .u64 0, .int .u64 0, .int .i64 0, .int .i64 0] 38)).drew w.heap.size 38 #[.int .i64 0, .int .i64 0, .int .u64 0, .int .u64 0, .int .u64 0, .int .u64 0, .int .i64 0, .int .i64 0] := Blk.fresh w _ _
    have BE : Below w.heap.size w (w.alloc (.cells #[.int .i64 0, .int .i64 0, .int .u64 0, .int .u64 0, .int .u64 0, .int .u64 0, .int .i64 0, .int .i64 0] 38)).drew := (below_alloc w _).drew
    have RB : Blk (w.alloc (.cells #[.int .i64 4, .int .i64 (ts.length : Int), .int .u64 (x0 : Int), .int .u64 (x1 : Int), .int .u64 (x2 : Int), .int .u64 (x3 : Int), .int .i64 0, .int .i64 0] 38)).drew w.heap.size 38 #[.int .i64 4, .int .i64 (ts.length : Int), .int .u64 (x0 : Int), .int .u64 (x1 : Int), .int .u64 (x2 : Int), .int .u64 (x3 : Int), .int .i64 0, .int .i64 0] := Blk.fresh w _ _
    have BF : Below w.heap.size w (w.alloc (.cells #[.int .i64 4, .int .i64 (ts.length : Int), .int .u64 (x0 : Int), .int .u64 (x1 : Int), .int .u64 (x2 : Int), .int .u64 (x3 : Int), .int .i64 0, .int .i64 0] 38)).drew := (below_alloc w _).drew
    have HRB := Lib.hid RB
    have HBF := Lib.hid BF
    have HSA : Hid ((w.alloc (.cells #[.int .i64 0, .int .i64 0, .int .u64 0, .int .u64 0, .int .u64 0, .int .u64 0, .int .i64 0, .int .i64 0] 38)).drew.heap.size = w.heap.size + 1) := Lib.hid (size_alloc _ _)
    have HRA := Lib.hid RA
    have HBE := Lib.hid BE
    clear RA BE RB BF
    go_enter Tryd.func20, Tryd.ntmps20
    go_upto_region 1 with fail
    go_cut [3, 4] (fun s3 s4 wx => ∃ (g : Nat) (v : Value) (L : List Value), s3 = .pointer (some ⟨g, 0, none⟩) ∧ s4 = v ∧ Hid (Blk wx g 38 #[.int .i64 4, .int .i64 (ts.length : Int), .int .u64 (x0 : Int), .int .u64 (x1 : Int), .int .u64 (x2 : Int), .int .u64 (x3 : Int), .int .i64 0, .int .i64 0]) ∧ Hid (∃ base, vs wx base 22 v L) ∧ Hid (kidV w L ts) ∧ Hid (Below w.heap.size w wx))
    case first =>
      have KD := And.intro (HS.out w.drew (below_draws w 1)) (below_draws w 1)
      obtain ⟨⟨b0, b1, b2, b3, b4, b5, b6, b7⟩, bd⟩ := KD
      go_region_held3 (fun u => u.cell? ⟨b, off, none⟩ = some (.int .i64 4) ∧ u.cell? ⟨b, off + 1, none⟩ = some (.int .i64 (ts.length : Int)) ∧ u.cell? ⟨b, off + 2, none⟩ = some (.int .u64 (x0 : Int)) ∧ u.cell? ⟨b, off + 3, none⟩ = some (.int .u64 (x1 : Int)) ∧ u.cell? ⟨b, off + 4, none⟩ = some (.int .u64 (x2 : Int)) ∧ u.cell? ⟨b, off + 5, none⟩ = some (.int .u64 (x3 : Int)) ∧ u.cell? ⟨b, off + 6, none⟩ = some (.int .i64 0) ∧ u.cell? ⟨b, off + 7, none⟩ = some (.int .i64 0) ∧ Below w.heap.size w u)
        (first | (with_reducible exact and9 (HS.out _ HBE.out) HBE.out) | (with_reducible exact and9 (HS.out _ HBF.out) HBF.out) | (with_reducible exact and9 (HS.out _ (KB1.alloc KB1.size _)) (KB1.alloc KB1.size _)) | (with_reducible exact and9 (HS.out _ (over8_below KB1 (Nat.le_refl _) KB1.size (.int .i64 4) (.int .i64 (ts.length : Int)) (.int .u64 (x0 : Int)) (.int .u64 (x1 : Int)) (.int .u64 (x2 : Int)) (.int .u64 (x3 : Int)) (.int .i64 0) (.int .i64 0))) (over8_below KB1 (Nat.le_refl _) KB1.size (.int .i64 4) (.int .i64 (ts.length : Int)) (.int .u64 (x0 : Int)) (.int .u64 (x1 : Int)) (.int .u64 (x2 : Int)) (.int .u64 (x3 : Int)) (.int .i64 0) (.int .i64 0))) | (exact ⟨b0, b1, b2, b3, b4, b5, b6, b7, bd⟩) | (exact ⟨c0, c1, c2, c3, c4, c5, c6, c7, KB1⟩) | assumption)
        (first | (go_at_call 27; refine (HCh.out _ (by first | (with_reducible exact bd) | (with_reducible exact HBE.out) | (with_reducible exact HBF.out) | exact below_draws w 1)).mono ?_; rintro e w1 ⟨v1, L1, rfl, hv1, hk1, k1⟩; have KB1 := grows (show Below w.heap.size w _ by first | (with_reducible exact bd) | (with_reducible exact HBE.out) | (with_reducible exact HBF.out) | exact below_draws w 1) k1; obtain ⟨c0, c1, c2, c3, c4, c5, c6, c7⟩ := HS.out w1 KB1; have HV1 := Lib.hid hv1; have HK1 := Lib.hid hk1; have HK9 := Lib.hid k1; clear hv1 hk1; try (obtain ⟨⟨r0, r1, r2, r3, r4, r5, r6, r7⟩, f0, f1, f2, f3, f4, f5, f6, f7⟩ := eight_blk (Blk.below HRA.out k1)); clear k1))
      all_goals
        simp only [Exit.then]
        go_wp2
        go_meet
        first
        | (with_reducible exact ⟨_, _, L1, rfl, rfl, Lib.hid (Blk.fresh w1 _ _), Lib.hid ⟨_, HV1.out.below (below_alloc w1 _)⟩, HK1, Lib.hid (KB1.alloc KB1.size _)⟩)
        | (with_reducible exact ⟨_, _, L1, rfl, rfl, Lib.hid (Blk.below HRB.out HK9.out), Lib.hid ⟨_, HV1.out⟩, HK1, Lib.hid KB1⟩)
        | (with_reducible exact ⟨_, _, L1, rfl, rfl, Lib.hid (over8_blk (Blk.below HRA.out HK9.out) (.int .i64 4) (.int .i64 (ts.length : Int)) (.int .u64 (x0 : Int)) (.int .u64 (x1 : Int)) (.int .u64 (x2 : Int)) (.int .u64 (x3 : Int)) (.int .i64 0) (.int .i64 0)), Lib.hid ⟨_, HV1.out.only (over8_only w1 w.heap.size (.int .i64 4) (.int .i64 (ts.length : Int)) (.int .u64 (x0 : Int)) (.int .u64 (x1 : Int)) (.int .u64 (x2 : Int)) (.int .u64 (x3 : Int)) (.int .i64 0) (.int .i64 0)) (fun i hi e => by have h1 := HV1.out.lo i hi; have h2 := HSA.out; omega)⟩, HK1, Lib.hid (over8_below KB1 (Nat.le_refl _) KB1.size (.int .i64 4) (.int .i64 (ts.length : Int)) (.int .u64 (x0 : Int)) (.int .u64 (x1 : Int)) (.int .u64 (x2 : Int)) (.int .u64 (x3 : Int)) (.int .i64 0) (.int .i64 0))⟩)
    case rest =>
      obtain ⟨g, v, L, rfl, rfl, HR, HVV, HK, HB⟩ := hcut
      obtain ⟨⟨r0, r1, r2, r3, r4, r5, r6, r7⟩, _⟩ := eight_blk HR.out
      obtain ⟨bs, hvs⟩ := HVV.out
      have HVS := Lib.hid hvs
      have HKC := Lib.hid (kidV.below HK.out HB.out)
      obtain ⟨AV, CV, hav, _⟩ := hvs.le
      subst hav
      rw [HKC.out.1] at HVS ⊢
      clear hvs HVV HK HCh HS HRA HBE HRB HBF
      generalize wc = wc at *
      have HLI : Hid (Calls Tryd.prog 29 #[.slice AV ts.length CV, .string (str [124]), .slice (some ⟨wc.heap.size, 0, none⟩) 1 1] (wc.alloc (.cells #[.int .i64 4] 3)) fun e w' => e = .returned (.string (str (Rt.tx (.alt ts)))) ∧ Below wc.heap.size wc w') := Lib.hid (by
        have hj : joinQ [124] (ts.map (ptx [4])) = Rt.tx (.alt ts) := by rw [txA_join, Rt.tx]
        have hok : 2 ≤ ts.length := by have := HOK.out; unfold okT at this; exact this.1
        refine (list_any (ts := ts) (ks := [4]) (sep := [124]) (by rintro rfl; simp at hok) (by have := HK4.out; omega) (by decide) (w0 := wc) (Lib.hid (below_alloc wc _)) (Lib.hid (HVS.out.below (below_alloc wc _))) HKC (Lib.hid (row_one wc)) (Lib.hid (HT.out.below (grows HB.out (below_alloc wc _)))) HAsk HLEN.out (by rw [hj]; have := HTL.out; omega)).mono ?_
        rintro e w' ⟨h1, h2⟩
        exact ⟨by rw [h1, hj], grows (below_alloc wc _) h2⟩)
      obtain ⟨X, hX⟩ : ∃ X, X = str (Rt.tx (.alt ts)) := ⟨_, rfl⟩
      rw [← hX] at HLI
      have HX := Lib.hid hX
      clear hX
      obtain ⟨nn, hnn⟩ : ∃ nn, nn = ts.length := ⟨_, rfl⟩
      rw [← hnn] at HLI ⊢
      try rw [← hnn] at r1
      clear hnn
      go_wp2_with (go_at_call 29; refine HLI.out.mono ?_; rintro e w9 ⟨rfl, k9⟩; have K9 := Lib.hid k9; clear k9)
      go_ret
      exact ⟨retS HX.out, grows HB.out K9.out⟩
  | star u =>
    dsimp only [hd, kidsT] at a0 a1 a6 a7 HS HCh HAsk HKL HLEN HK4 HXS
    have RA : Blk (w.alloc (.cells #[.int .i64 0, .int .i64 0, .int .u64 0, .int .u64 0, .int .u64 0, .int .u64 0, .int .i64 0, .int .i64 0] 38)).drew w.heap.size 38 #[.int .i64 0, .int .i64 0, .int .u64 0, .int .u64 0, .int .u64 0, .int .u64 0, .int .i64 0, .int .i64 0] := Blk.fresh w _ _
    have BE : Below w.heap.size w (w.alloc (.cells #[.int .i64 0, .int .i64 0, .int .u64 0, .int .u64 0, .int .u64 0, .int .u64 0, .int .i64 0, .int .i64 0] 38)).drew := (below_alloc w _).drew
    have RB : Blk (w.alloc (.cells #[.int .i64 5, .int .i64 1, .int .u64 (x0 : Int), .int .u64 (x1 : Int), .int .u64 (x2 : Int), .int .u64 (x3 : Int), .int .i64 0, .int .i64 0] 38)).drew w.heap.size 38 #[.int .i64 5, .int .i64 1, .int .u64 (x0 : Int), .int .u64 (x1 : Int), .int .u64 (x2 : Int), .int .u64 (x3 : Int), .int .i64 0, .int .i64 0] := Blk.fresh w _ _
    have BF : Below w.heap.size w (w.alloc (.cells #[.int .i64 5, .int .i64 1, .int .u64 (x0 : Int), .int .u64 (x1 : Int), .int .u64 (x2 : Int), .int .u64 (x3 : Int), .int .i64 0, .int .i64 0] 38)).drew := (below_alloc w _).drew
    have HRB := Lib.hid RB
    have HBF := Lib.hid BF
    have HSA : Hid ((w.alloc (.cells #[.int .i64 0, .int .i64 0, .int .u64 0, .int .u64 0, .int .u64 0, .int .u64 0, .int .i64 0, .int .i64 0] 38)).drew.heap.size = w.heap.size + 1) := Lib.hid (size_alloc _ _)
    have HRA := Lib.hid RA
    have HBE := Lib.hid BE
    clear RA BE RB BF
    go_enter Tryd.func20, Tryd.ntmps20
    go_upto_region 1 with fail
    go_cut [3, 4] (fun s3 s4 wx => ∃ (g : Nat) (v : Value) (L : List Value), s3 = .pointer (some ⟨g, 0, none⟩) ∧ s4 = v ∧ Hid (Blk wx g 38 #[.int .i64 5, .int .i64 1, .int .u64 (x0 : Int), .int .u64 (x1 : Int), .int .u64 (x2 : Int), .int .u64 (x3 : Int), .int .i64 0, .int .i64 0]) ∧ Hid (∃ base, vs wx base 22 v L) ∧ Hid (kidV w L [u]) ∧ Hid (Below w.heap.size w wx))
    case first =>
      have KD := And.intro (HS.out w.drew (below_draws w 1)) (below_draws w 1)
      obtain ⟨⟨b0, b1, b2, b3, b4, b5, b6, b7⟩, bd⟩ := KD
      go_region_held3 (fun u => u.cell? ⟨b, off, none⟩ = some (.int .i64 5) ∧ u.cell? ⟨b, off + 1, none⟩ = some (.int .i64 1) ∧ u.cell? ⟨b, off + 2, none⟩ = some (.int .u64 (x0 : Int)) ∧ u.cell? ⟨b, off + 3, none⟩ = some (.int .u64 (x1 : Int)) ∧ u.cell? ⟨b, off + 4, none⟩ = some (.int .u64 (x2 : Int)) ∧ u.cell? ⟨b, off + 5, none⟩ = some (.int .u64 (x3 : Int)) ∧ u.cell? ⟨b, off + 6, none⟩ = some (.int .i64 0) ∧ u.cell? ⟨b, off + 7, none⟩ = some (.int .i64 0) ∧ Below w.heap.size w u)
        (first | (with_reducible exact and9 (HS.out _ HBE.out) HBE.out) | (with_reducible exact and9 (HS.out _ HBF.out) HBF.out) | (with_reducible exact and9 (HS.out _ (KB1.alloc KB1.size _)) (KB1.alloc KB1.size _)) | (with_reducible exact and9 (HS.out _ (over8_below KB1 (Nat.le_refl _) KB1.size (.int .i64 5) (.int .i64 1) (.int .u64 (x0 : Int)) (.int .u64 (x1 : Int)) (.int .u64 (x2 : Int)) (.int .u64 (x3 : Int)) (.int .i64 0) (.int .i64 0))) (over8_below KB1 (Nat.le_refl _) KB1.size (.int .i64 5) (.int .i64 1) (.int .u64 (x0 : Int)) (.int .u64 (x1 : Int)) (.int .u64 (x2 : Int)) (.int .u64 (x3 : Int)) (.int .i64 0) (.int .i64 0))) | (exact ⟨b0, b1, b2, b3, b4, b5, b6, b7, bd⟩) | (exact ⟨c0, c1, c2, c3, c4, c5, c6, c7, KB1⟩) | assumption)
        (first | (go_at_call 27; refine (HCh.out _ (by first | (with_reducible exact bd) | (with_reducible exact HBE.out) | (with_reducible exact HBF.out) | exact below_draws w 1)).mono ?_; rintro e w1 ⟨v1, L1, rfl, hv1, hk1, k1⟩; have KB1 := grows (show Below w.heap.size w _ by first | (with_reducible exact bd) | (with_reducible exact HBE.out) | (with_reducible exact HBF.out) | exact below_draws w 1) k1; obtain ⟨c0, c1, c2, c3, c4, c5, c6, c7⟩ := HS.out w1 KB1; have HV1 := Lib.hid hv1; have HK1 := Lib.hid hk1; have HK9 := Lib.hid k1; clear hv1 hk1; try (obtain ⟨⟨r0, r1, r2, r3, r4, r5, r6, r7⟩, f0, f1, f2, f3, f4, f5, f6, f7⟩ := eight_blk (Blk.below HRA.out k1)); clear k1))
      all_goals
        simp only [Exit.then]
        go_wp2
        go_meet
        first
        | (with_reducible exact ⟨_, _, L1, rfl, rfl, Lib.hid (Blk.fresh w1 _ _), Lib.hid ⟨_, HV1.out.below (below_alloc w1 _)⟩, HK1, Lib.hid (KB1.alloc KB1.size _)⟩)
        | (with_reducible exact ⟨_, _, L1, rfl, rfl, Lib.hid (Blk.below HRB.out HK9.out), Lib.hid ⟨_, HV1.out⟩, HK1, Lib.hid KB1⟩)
        | (with_reducible exact ⟨_, _, L1, rfl, rfl, Lib.hid (over8_blk (Blk.below HRA.out HK9.out) (.int .i64 5) (.int .i64 1) (.int .u64 (x0 : Int)) (.int .u64 (x1 : Int)) (.int .u64 (x2 : Int)) (.int .u64 (x3 : Int)) (.int .i64 0) (.int .i64 0)), Lib.hid ⟨_, HV1.out.only (over8_only w1 w.heap.size (.int .i64 5) (.int .i64 1) (.int .u64 (x0 : Int)) (.int .u64 (x1 : Int)) (.int .u64 (x2 : Int)) (.int .u64 (x3 : Int)) (.int .i64 0) (.int .i64 0)) (fun i hi e => by have h1 := HV1.out.lo i hi; have h2 := HSA.out; omega)⟩, HK1, Lib.hid (over8_below KB1 (Nat.le_refl _) KB1.size (.int .i64 5) (.int .i64 1) (.int .u64 (x0 : Int)) (.int .u64 (x1 : Int)) (.int .u64 (x2 : Int)) (.int .u64 (x3 : Int)) (.int .i64 0) (.int .i64 0))⟩)
    case rest =>
      obtain ⟨g, v, L, rfl, rfl, HR, HVV, HK, HB⟩ := hcut
      obtain ⟨⟨r0, r1, r2, r3, r4, r5, r6, r7⟩, _⟩ := eight_blk HR.out
      obtain ⟨bs, hvs⟩ := HVV.out
      have HVS := Lib.hid hvs
      have HKC := Lib.hid (kidV.below HK.out HB.out)
      obtain ⟨AV, CV, hav, _⟩ := hvs.le
      subst hav
      rw [HKC.out.1] at HVS ⊢
      clear hvs HVV HK HCh HS HRA HBE HRB HBF
      generalize wc = wc at *
      have HSG : Hid (∀ x, tab x → Calls Tryd.prog 30 #[.agg #[.int .i64 5, .int .i64 1, .int .u64 (x0 : Int), .int .u64 (x1 : Int), .int .u64 (x2 : Int), .int .u64 (x3 : Int), .int .i64 0, .int .i64 0]] x fun e w' => e = .returned (.string (str [42])) ∧ Below x.heap.size x w') := Lib.hid (fun x ht => sign_kind 0 0 1 _ _ _ _ (by decide) x)
      have HTC := Lib.hid (HT.out.below HB.out)
      obtain ⟨SG, hSG⟩ : ∃ SG, SG = str [42] := ⟨_, rfl⟩
      have HLI : Hid (∀ x K kc, Below wc.heap.size wc x → row x K 6 (fun i => (Een.nth [3, 4, 5, 6, 7, 8] i : Int)) → Calls Tryd.prog 29 #[.slice AV [u].length CV, .string ⟨#[]⟩, .slice K 6 kc] x fun e w' => e = .returned (.string (str (Rt.par (!Rt.isAtm u) (Rt.tx u)))) ∧ Below x.heap.size x w') := Lib.hid (fun x K kc hb hr => by
        have hj := one_join u
        have h := list_any (ts := [u]) (ks := [3, 4, 5, 6, 7, 8]) (sep := []) (kc := kc) (by simp) (by simp) (by decide) (w0 := wc) (Lib.hid hb) (Lib.hid (HVS.out.below hb)) HKC (Lib.hid hr) (Lib.hid (HTC.out.below hb)) HAsk HLEN.out (by rw [hj]; have h1 := par_len (!Rt.isAtm u) (Rt.tx u); have h2 := (HLEN.out u (by simp)).2; omega)
        rw [hj] at h
        exact h)
      obtain ⟨SL, hSL⟩ : ∃ SL, SL = str (Rt.par (!Rt.isAtm u) (Rt.tx u)) := ⟨_, rfl⟩
      have hz1 : SL.size ≤ 2000000 := by rw [hSL, str_size]; have h1 := par_len (!Rt.isAtm u) (Rt.tx u); have h2 := (HLEN.out u (by simp)).2; omega
      have hz2 : SG.size ≤ 100 := by rw [hSG, str_size]; decide
      have hz3 : ¬ 9223372036854775807 < SL.size + SG.size := by omega
      have HRES : Hid (SL ++ SG = str (Rt.tx (.star u))) := Lib.hid (by rw [hSL, hSG, str_app, Rt.tx])
      rw [← hSL] at HLI
      rw [← hSG] at HSG
      clear hSL hSG
      dsimp only [List.length_cons, List.length_nil, Nat.zero_add] at HLI HVS ⊢
      obtain ⟨⟨b0, b1, b2, b3, b4, b5, b6, b7⟩, _⟩ := eight_blk (show Blk wc.drew g 38 #[.int .i64 5, .int .i64 1, .int .u64 (x0 : Int), .int .u64 (x1 : Int), .int .u64 (x2 : Int), .int .u64 (x3 : Int), .int .i64 0, .int .i64 0] from Blk.below HR.out (below_draws wc 1))
      have HK : Hid (Below wc.heap.size wc wc.drew) := Lib.hid (below_draws wc 1)
      go_wp2
      refine wp_region_noPanic ?_
      refine wp_region_any (by kernel_rfl) ?_
      show wpAny _ _ _ _ _ _ _ wc.drew
      refine takeA (i := 0) (d := some 29) (v := ?v1) rfl rfl (by kernel_rfl) (by kernel_rfl) (by kernel_rfl) (fun _ _ _ h => h) (Or.inl ⟨by rfl, ?hy1⟩) ?rest1
      case hy1 => (intro w9; first | (go_simp; done) | (go_simp; with_reducible rfl))
      try simp only [Act.put, List.setIfInBounds_toArray, List.set_cons_zero, List.set_cons_succ]
      refine twoA (i := 1) (j := 3) (by kernel_rfl) ?_ ?_
      · skip
        refine opA (d := some 30) rfl rfl (by rfl) (fun K hK => ?_)
        go_simp
        refine hK.out _ _ ?_
        clear hK K
        try simp only [Act.put, List.setIfInBounds_toArray, List.set_cons_zero, List.set_cons_succ]
        obtain ⟨wa2, hwa⟩ : ∃ x, x = wc.drew.alloc (.cells #[.int .i64 3, .int .i64 4, .int .i64 5, .int .i64 6, .int .i64 7, .int .i64 8] 3) := ⟨_, rfl⟩
        have HK := Lib.hid (show Below wc.heap.size wc wa2 from by rw [hwa]; exact grows HK.out (below_alloc _ _))
        have HROW := Lib.hid (show row wa2 (some ⟨wc.drew.heap.size, 0, none⟩) 6 (fun i => (Een.nth [3, 4, 5, 6, 7, 8] i : Int)) from by rw [hwa]; exact row_six _)
        obtain ⟨⟨e0, e1, e2, e3, e4, e5, e6, e7⟩, _⟩ := eight_blk (show Blk wa2 g 38 #[.int .i64 5, .int .i64 1, .int .u64 (x0 : Int), .int .u64 (x1 : Int), .int .u64 (x2 : Int), .int .u64 (x3 : Int), .int .i64 0, .int .i64 0] from Blk.below HR.out HK.out)
        show wpAny _ _ _ _ _ _ _ (wc.drew.alloc (.cells #[.int .i64 3, .int .i64 4, .int .i64 5, .int .i64 6, .int .i64 7, .int .i64 8] 3))
        rw [← hwa]
        clear hwa
        refine twoA (i := 2) (j := 3) (by kernel_rfl) ?_ ?_
        · skip
          refine opA (d := some 31) rfl rfl (by rfl) (fun K hK => ?_)
          go_simp
          go_at_call 29
          refine (HLI.out _ _ _ HK.out HROW.out).mono ?_
          rintro e wb3 ⟨rfl, k⟩
          try (have HROW := Lib.hid (HROW.out.below k))
          have HK := Lib.hid (show Below wc.heap.size wc wb3 from grows HK.out k)
          clear k
          obtain ⟨⟨e0, e1, e2, e3, e4, e5, e6, e7⟩, _⟩ := eight_blk (show Blk wb3 g 38 #[.int .i64 5, .int .i64 1, .int .u64 (x0 : Int), .int .u64 (x1 : Int), .int .u64 (x2 : Int), .int .u64 (x3 : Int), .int .i64 0, .int .i64 0] from Blk.below HR.out HK.out)
          refine hK.out _ _ ?_
          clear hK K
          try simp only [Act.put, List.setIfInBounds_toArray, List.set_cons_zero, List.set_cons_succ]
          refine oneA (i := 3) (by kernel_rfl) ?_
          refine opA (d := some 32) rfl rfl (by rfl) (fun K hK => ?_)
          go_simp
          refine hK.out _ _ ?_
          clear hK K
          try simp only [Act.put, List.setIfInBounds_toArray, List.set_cons_zero, List.set_cons_succ]
          refine oneA (i := 4) (by kernel_rfl) ?_
          refine opA (d := some 33) rfl rfl (by rfl) (fun K hK => ?_)
          go_simp
          go_at_call 30
          refine (HSG.out _ (HTC.out.below HK.out)).mono ?_
          rintro e wb5 ⟨rfl, k⟩
          try (have HROW := Lib.hid (HROW.out.below k))
          have HK := Lib.hid (show Below wc.heap.size wc wb5 from grows HK.out k)
          clear k
          obtain ⟨⟨e0, e1, e2, e3, e4, e5, e6, e7⟩, _⟩ := eight_blk (show Blk wb5 g 38 #[.int .i64 5, .int .i64 1, .int .u64 (x0 : Int), .int .u64 (x1 : Int), .int .u64 (x2 : Int), .int .u64 (x3 : Int), .int .i64 0, .int .i64 0] from Blk.below HR.out HK.out)
          refine hK.out _ _ ?_
          clear hK K
          try simp only [Act.put, List.setIfInBounds_toArray, List.set_cons_zero, List.set_cons_succ]
          refine takeA (i := 5) (d := some 34) (v := ?v6) rfl rfl (by kernel_rfl) (by kernel_rfl) (by kernel_rfl) (fun _ _ _ h => h) (Or.inl ⟨by rfl, ?hy6⟩) ?rest6
          case hy6 => (intro w9; first | (go_simp; done) | (go_simp; with_reducible rfl))
          try simp only [Act.put, List.setIfInBounds_toArray, List.set_cons_zero, List.set_cons_succ]
          refine takeA (i := 6) (d := some 2) (v := ?v7) rfl rfl (by kernel_rfl) (by kernel_rfl) (by kernel_rfl) (fun _ _ _ h => h) (Or.inl ⟨by rfl, ?hy7⟩) ?rest7
          case hy7 => (intro w9; first | (go_simp; done) | (go_simp; with_reducible rfl))
          try simp only [Act.put, List.setIfInBounds_toArray, List.set_cons_zero, List.set_cons_succ]
          refine wpAny_done (by kernel_rfl) ?_ _
          refine NoPanic.normal ?_
          simp only [Exit.then]
          go_wp2
          go_ret
          exact ⟨retS HRES.out, grows HB.out HK.out⟩
        · skip
          refine opA (d := some 32) rfl rfl (by rfl) (fun K hK => ?_)
          go_simp
          refine hK.out _ _ ?_
          clear hK K
          try simp only [Act.put, List.setIfInBounds_toArray, List.set_cons_zero, List.set_cons_succ]
          refine oneA (i := 2) (by kernel_rfl) ?_
          refine opA (d := some 31) rfl rfl (by rfl) (fun K hK => ?_)
          go_simp
          go_at_call 29
          refine (HLI.out _ _ _ HK.out HROW.out).mono ?_
          rintro e wb9 ⟨rfl, k⟩
          try (have HROW := Lib.hid (HROW.out.below k))
          have HK := Lib.hid (show Below wc.heap.size wc wb9 from grows HK.out k)
          clear k
          obtain ⟨⟨e0, e1, e2, e3, e4, e5, e6, e7⟩, _⟩ := eight_blk (show Blk wb9 g 38 #[.int .i64 5, .int .i64 1, .int .u64 (x0 : Int), .int .u64 (x1 : Int), .int .u64 (x2 : Int), .int .u64 (x3 : Int), .int .i64 0, .int .i64 0] from Blk.below HR.out HK.out)
          refine hK.out _ _ ?_
          clear hK K
          try simp only [Act.put, List.setIfInBounds_toArray, List.set_cons_zero, List.set_cons_succ]
          refine oneA (i := 4) (by kernel_rfl) ?_
          refine opA (d := some 33) rfl rfl (by rfl) (fun K hK => ?_)
          go_simp
          go_at_call 30
          refine (HSG.out _ (HTC.out.below HK.out)).mono ?_
          rintro e wb10 ⟨rfl, k⟩
          try (have HROW := Lib.hid (HROW.out.below k))
          have HK := Lib.hid (show Below wc.heap.size wc wb10 from grows HK.out k)
          clear k
          obtain ⟨⟨e0, e1, e2, e3, e4, e5, e6, e7⟩, _⟩ := eight_blk (show Blk wb10 g 38 #[.int .i64 5, .int .i64 1, .int .u64 (x0 : Int), .int .u64 (x1 : Int), .int .u64 (x2 : Int), .int .u64 (x3 : Int), .int .i64 0, .int .i64 0] from Blk.below HR.out HK.out)
          refine hK.out _ _ ?_
          clear hK K
          try simp only [Act.put, List.setIfInBounds_toArray, List.set_cons_zero, List.set_cons_succ]
          refine takeA (i := 5) (d := some 34) (v := ?v11) rfl rfl (by kernel_rfl) (by kernel_rfl) (by kernel_rfl) (fun _ _ _ h => h) (Or.inl ⟨by rfl, ?hy11⟩) ?rest11
          case hy11 => (intro w9; first | (go_simp; done) | (go_simp; with_reducible rfl))
          try simp only [Act.put, List.setIfInBounds_toArray, List.set_cons_zero, List.set_cons_succ]
          refine takeA (i := 6) (d := some 2) (v := ?v12) rfl rfl (by kernel_rfl) (by kernel_rfl) (by kernel_rfl) (fun _ _ _ h => h) (Or.inl ⟨by rfl, ?hy12⟩) ?rest12
          case hy12 => (intro w9; first | (go_simp; done) | (go_simp; with_reducible rfl))
          try simp only [Act.put, List.setIfInBounds_toArray, List.set_cons_zero, List.set_cons_succ]
          refine wpAny_done (by kernel_rfl) ?_ _
          refine NoPanic.normal ?_
          simp only [Exit.then]
          go_wp2
          go_ret
          exact ⟨retS HRES.out, grows HB.out HK.out⟩
      · skip
        refine opA (d := some 32) rfl rfl (by rfl) (fun K hK => ?_)
        go_simp
        refine hK.out _ _ ?_
        clear hK K
        try simp only [Act.put, List.setIfInBounds_toArray, List.set_cons_zero, List.set_cons_succ]
        refine oneA (i := 1) (by kernel_rfl) ?_
        refine opA (d := some 30) rfl rfl (by rfl) (fun K hK => ?_)
        go_simp
        refine hK.out _ _ ?_
        clear hK K
        try simp only [Act.put, List.setIfInBounds_toArray, List.set_cons_zero, List.set_cons_succ]
        obtain ⟨wa14, hwa⟩ : ∃ x, x = wc.drew.alloc (.cells #[.int .i64 3, .int .i64 4, .int .i64 5, .int .i64 6, .int .i64 7, .int .i64 8] 3) := ⟨_, rfl⟩
        have HK := Lib.hid (show Below wc.heap.size wc wa14 from by rw [hwa]; exact grows HK.out (below_alloc _ _))
        have HROW := Lib.hid (show row wa14 (some ⟨wc.drew.heap.size, 0, none⟩) 6 (fun i => (Een.nth [3, 4, 5, 6, 7, 8] i : Int)) from by rw [hwa]; exact row_six _)
        obtain ⟨⟨e0, e1, e2, e3, e4, e5, e6, e7⟩, _⟩ := eight_blk (show Blk wa14 g 38 #[.int .i64 5, .int .i64 1, .int .u64 (x0 : Int), .int .u64 (x1 : Int), .int .u64 (x2 : Int), .int .u64 (x3 : Int), .int .i64 0, .int .i64 0] from Blk.below HR.out HK.out)
        show wpAny _ _ _ _ _ _ _ (wc.drew.alloc (.cells #[.int .i64 3, .int .i64 4, .int .i64 5, .int .i64 6, .int .i64 7, .int .i64 8] 3))
        rw [← hwa]
        clear hwa
        refine oneA (i := 2) (by kernel_rfl) ?_
        refine opA (d := some 31) rfl rfl (by rfl) (fun K hK => ?_)
        go_simp
        go_at_call 29
        refine (HLI.out _ _ _ HK.out HROW.out).mono ?_
        rintro e wb15 ⟨rfl, k⟩
        try (have HROW := Lib.hid (HROW.out.below k))
        have HK := Lib.hid (show Below wc.heap.size wc wb15 from grows HK.out k)
        clear k
        obtain ⟨⟨e0, e1, e2, e3, e4, e5, e6, e7⟩, _⟩ := eight_blk (show Blk wb15 g 38 #[.int .i64 5, .int .i64 1, .int .u64 (x0 : Int), .int .u64 (x1 : Int), .int .u64 (x2 : Int), .int .u64 (x3 : Int), .int .i64 0, .int .i64 0] from Blk.below HR.out HK.out)
        refine hK.out _ _ ?_
        clear hK K
        try simp only [Act.put, List.setIfInBounds_toArray, List.set_cons_zero, List.set_cons_succ]
        refine oneA (i := 4) (by kernel_rfl) ?_
        refine opA (d := some 33) rfl rfl (by rfl) (fun K hK => ?_)
        go_simp
        go_at_call 30
        refine (HSG.out _ (HTC.out.below HK.out)).mono ?_
        rintro e wb16 ⟨rfl, k⟩
        try (have HROW := Lib.hid (HROW.out.below k))
        have HK := Lib.hid (show Below wc.heap.size wc wb16 from grows HK.out k)
        clear k
        obtain ⟨⟨e0, e1, e2, e3, e4, e5, e6, e7⟩, _⟩ := eight_blk (show Blk wb16 g 38 #[.int .i64 5, .int .i64 1, .int .u64 (x0 : Int), .int .u64 (x1 : Int), .int .u64 (x2 : Int), .int .u64 (x3 : Int), .int .i64 0, .int .i64 0] from Blk.below HR.out HK.out)
        refine hK.out _ _ ?_
        clear hK K
        try simp only [Act.put, List.setIfInBounds_toArray, List.set_cons_zero, List.set_cons_succ]
        refine takeA (i := 5) (d := some 34) (v := ?v17) rfl rfl (by kernel_rfl) (by kernel_rfl) (by kernel_rfl) (fun _ _ _ h => h) (Or.inl ⟨by rfl, ?hy17⟩) ?rest17
        case hy17 => (intro w9; first | (go_simp; done) | (go_simp; with_reducible rfl))
        try simp only [Act.put, List.setIfInBounds_toArray, List.set_cons_zero, List.set_cons_succ]
        refine takeA (i := 6) (d := some 2) (v := ?v18) rfl rfl (by kernel_rfl) (by kernel_rfl) (by kernel_rfl) (fun _ _ _ h => h) (Or.inl ⟨by rfl, ?hy18⟩) ?rest18
        case hy18 => (intro w9; first | (go_simp; done) | (go_simp; with_reducible rfl))
        try simp only [Act.put, List.setIfInBounds_toArray, List.set_cons_zero, List.set_cons_succ]
        refine wpAny_done (by kernel_rfl) ?_ _
        refine NoPanic.normal ?_
        simp only [Exit.then]
        go_wp2
        go_ret
        exact ⟨retS HRES.out, grows HB.out HK.out⟩
  | plus u =>
    dsimp only [hd, kidsT] at a0 a1 a6 a7 HS HCh HAsk HKL HLEN HK4 HXS
    have RA : Blk (w.alloc (.cells #[.int .i64 0, .int .i64 0, .int .u64 0, .int .u64 0, .int .u64 0, .int .u64 0, .int .i64 0, .int .i64 0] 38)).drew w.heap.size 38 #[.int .i64 0, .int .i64 0, .int .u64 0, .int .u64 0, .int .u64 0, .int .u64 0, .int .i64 0, .int .i64 0] := Blk.fresh w _ _
    have BE : Below w.heap.size w (w.alloc (.cells #[.int .i64 0, .int .i64 0, .int .u64 0, .int .u64 0, .int .u64 0, .int .u64 0, .int .i64 0, .int .i64 0] 38)).drew := (below_alloc w _).drew
    have RB : Blk (w.alloc (.cells #[.int .i64 6, .int .i64 1, .int .u64 (x0 : Int), .int .u64 (x1 : Int), .int .u64 (x2 : Int), .int .u64 (x3 : Int), .int .i64 0, .int .i64 0] 38)).drew w.heap.size 38 #[.int .i64 6, .int .i64 1, .int .u64 (x0 : Int), .int .u64 (x1 : Int), .int .u64 (x2 : Int), .int .u64 (x3 : Int), .int .i64 0, .int .i64 0] := Blk.fresh w _ _
    have BF : Below w.heap.size w (w.alloc (.cells #[.int .i64 6, .int .i64 1, .int .u64 (x0 : Int), .int .u64 (x1 : Int), .int .u64 (x2 : Int), .int .u64 (x3 : Int), .int .i64 0, .int .i64 0] 38)).drew := (below_alloc w _).drew
    have HRB := Lib.hid RB
    have HBF := Lib.hid BF
    have HSA : Hid ((w.alloc (.cells #[.int .i64 0, .int .i64 0, .int .u64 0, .int .u64 0, .int .u64 0, .int .u64 0, .int .i64 0, .int .i64 0] 38)).drew.heap.size = w.heap.size + 1) := Lib.hid (size_alloc _ _)
    have HRA := Lib.hid RA
    have HBE := Lib.hid BE
    clear RA BE RB BF
    go_enter Tryd.func20, Tryd.ntmps20
    go_upto_region 1 with fail
    go_cut [3, 4] (fun s3 s4 wx => ∃ (g : Nat) (v : Value) (L : List Value), s3 = .pointer (some ⟨g, 0, none⟩) ∧ s4 = v ∧ Hid (Blk wx g 38 #[.int .i64 6, .int .i64 1, .int .u64 (x0 : Int), .int .u64 (x1 : Int), .int .u64 (x2 : Int), .int .u64 (x3 : Int), .int .i64 0, .int .i64 0]) ∧ Hid (∃ base, vs wx base 22 v L) ∧ Hid (kidV w L [u]) ∧ Hid (Below w.heap.size w wx))
    case first =>
      have KD := And.intro (HS.out w.drew (below_draws w 1)) (below_draws w 1)
      obtain ⟨⟨b0, b1, b2, b3, b4, b5, b6, b7⟩, bd⟩ := KD
      go_region_held3 (fun u => u.cell? ⟨b, off, none⟩ = some (.int .i64 6) ∧ u.cell? ⟨b, off + 1, none⟩ = some (.int .i64 1) ∧ u.cell? ⟨b, off + 2, none⟩ = some (.int .u64 (x0 : Int)) ∧ u.cell? ⟨b, off + 3, none⟩ = some (.int .u64 (x1 : Int)) ∧ u.cell? ⟨b, off + 4, none⟩ = some (.int .u64 (x2 : Int)) ∧ u.cell? ⟨b, off + 5, none⟩ = some (.int .u64 (x3 : Int)) ∧ u.cell? ⟨b, off + 6, none⟩ = some (.int .i64 0) ∧ u.cell? ⟨b, off + 7, none⟩ = some (.int .i64 0) ∧ Below w.heap.size w u)
        (first | (with_reducible exact and9 (HS.out _ HBE.out) HBE.out) | (with_reducible exact and9 (HS.out _ HBF.out) HBF.out) | (with_reducible exact and9 (HS.out _ (KB1.alloc KB1.size _)) (KB1.alloc KB1.size _)) | (with_reducible exact and9 (HS.out _ (over8_below KB1 (Nat.le_refl _) KB1.size (.int .i64 6) (.int .i64 1) (.int .u64 (x0 : Int)) (.int .u64 (x1 : Int)) (.int .u64 (x2 : Int)) (.int .u64 (x3 : Int)) (.int .i64 0) (.int .i64 0))) (over8_below KB1 (Nat.le_refl _) KB1.size (.int .i64 6) (.int .i64 1) (.int .u64 (x0 : Int)) (.int .u64 (x1 : Int)) (.int .u64 (x2 : Int)) (.int .u64 (x3 : Int)) (.int .i64 0) (.int .i64 0))) | (exact ⟨b0, b1, b2, b3, b4, b5, b6, b7, bd⟩) | (exact ⟨c0, c1, c2, c3, c4, c5, c6, c7, KB1⟩) | assumption)
        (first | (go_at_call 27; refine (HCh.out _ (by first | (with_reducible exact bd) | (with_reducible exact HBE.out) | (with_reducible exact HBF.out) | exact below_draws w 1)).mono ?_; rintro e w1 ⟨v1, L1, rfl, hv1, hk1, k1⟩; have KB1 := grows (show Below w.heap.size w _ by first | (with_reducible exact bd) | (with_reducible exact HBE.out) | (with_reducible exact HBF.out) | exact below_draws w 1) k1; obtain ⟨c0, c1, c2, c3, c4, c5, c6, c7⟩ := HS.out w1 KB1; have HV1 := Lib.hid hv1; have HK1 := Lib.hid hk1; have HK9 := Lib.hid k1; clear hv1 hk1; try (obtain ⟨⟨r0, r1, r2, r3, r4, r5, r6, r7⟩, f0, f1, f2, f3, f4, f5, f6, f7⟩ := eight_blk (Blk.below HRA.out k1)); clear k1))
      all_goals
        simp only [Exit.then]
        go_wp2
        go_meet
        first
        | (with_reducible exact ⟨_, _, L1, rfl, rfl, Lib.hid (Blk.fresh w1 _ _), Lib.hid ⟨_, HV1.out.below (below_alloc w1 _)⟩, HK1, Lib.hid (KB1.alloc KB1.size _)⟩)
        | (with_reducible exact ⟨_, _, L1, rfl, rfl, Lib.hid (Blk.below HRB.out HK9.out), Lib.hid ⟨_, HV1.out⟩, HK1, Lib.hid KB1⟩)
        | (with_reducible exact ⟨_, _, L1, rfl, rfl, Lib.hid (over8_blk (Blk.below HRA.out HK9.out) (.int .i64 6) (.int .i64 1) (.int .u64 (x0 : Int)) (.int .u64 (x1 : Int)) (.int .u64 (x2 : Int)) (.int .u64 (x3 : Int)) (.int .i64 0) (.int .i64 0)), Lib.hid ⟨_, HV1.out.only (over8_only w1 w.heap.size (.int .i64 6) (.int .i64 1) (.int .u64 (x0 : Int)) (.int .u64 (x1 : Int)) (.int .u64 (x2 : Int)) (.int .u64 (x3 : Int)) (.int .i64 0) (.int .i64 0)) (fun i hi e => by have h1 := HV1.out.lo i hi; have h2 := HSA.out; omega)⟩, HK1, Lib.hid (over8_below KB1 (Nat.le_refl _) KB1.size (.int .i64 6) (.int .i64 1) (.int .u64 (x0 : Int)) (.int .u64 (x1 : Int)) (.int .u64 (x2 : Int)) (.int .u64 (x3 : Int)) (.int .i64 0) (.int .i64 0))⟩)
    case rest =>
      obtain ⟨g, v, L, rfl, rfl, HR, HVV, HK, HB⟩ := hcut
      obtain ⟨⟨r0, r1, r2, r3, r4, r5, r6, r7⟩, _⟩ := eight_blk HR.out
      obtain ⟨bs, hvs⟩ := HVV.out
      have HVS := Lib.hid hvs
      have HKC := Lib.hid (kidV.below HK.out HB.out)
      obtain ⟨AV, CV, hav, _⟩ := hvs.le
      subst hav
      rw [HKC.out.1] at HVS ⊢
      clear hvs HVV HK HCh HS HRA HBE HRB HBF
      generalize wc = wc at *
      have HSG : Hid (∀ x, tab x → Calls Tryd.prog 30 #[.agg #[.int .i64 6, .int .i64 1, .int .u64 (x0 : Int), .int .u64 (x1 : Int), .int .u64 (x2 : Int), .int .u64 (x3 : Int), .int .i64 0, .int .i64 0]] x fun e w' => e = .returned (.string (str [43])) ∧ Below x.heap.size x w') := Lib.hid (fun x ht => sign_kind 0 0 1 _ _ _ _ (by decide) x)
      have HTC := Lib.hid (HT.out.below HB.out)
      obtain ⟨SG, hSG⟩ : ∃ SG, SG = str [43] := ⟨_, rfl⟩
      have HLI : Hid (∀ x K kc, Below wc.heap.size wc x → row x K 6 (fun i => (Een.nth [3, 4, 5, 6, 7, 8] i : Int)) → Calls Tryd.prog 29 #[.slice AV [u].length CV, .string ⟨#[]⟩, .slice K 6 kc] x fun e w' => e = .returned (.string (str (Rt.par (!Rt.isAtm u) (Rt.tx u)))) ∧ Below x.heap.size x w') := Lib.hid (fun x K kc hb hr => by
        have hj := one_join u
        have h := list_any (ts := [u]) (ks := [3, 4, 5, 6, 7, 8]) (sep := []) (kc := kc) (by simp) (by simp) (by decide) (w0 := wc) (Lib.hid hb) (Lib.hid (HVS.out.below hb)) HKC (Lib.hid hr) (Lib.hid (HTC.out.below hb)) HAsk HLEN.out (by rw [hj]; have h1 := par_len (!Rt.isAtm u) (Rt.tx u); have h2 := (HLEN.out u (by simp)).2; omega)
        rw [hj] at h
        exact h)
      obtain ⟨SL, hSL⟩ : ∃ SL, SL = str (Rt.par (!Rt.isAtm u) (Rt.tx u)) := ⟨_, rfl⟩
      have hz1 : SL.size ≤ 2000000 := by rw [hSL, str_size]; have h1 := par_len (!Rt.isAtm u) (Rt.tx u); have h2 := (HLEN.out u (by simp)).2; omega
      have hz2 : SG.size ≤ 100 := by rw [hSG, str_size]; decide
      have hz3 : ¬ 9223372036854775807 < SL.size + SG.size := by omega
      have HRES : Hid (SL ++ SG = str (Rt.tx (.plus u))) := Lib.hid (by rw [hSL, hSG, str_app, Rt.tx])
      rw [← hSL] at HLI
      rw [← hSG] at HSG
      clear hSL hSG
      dsimp only [List.length_cons, List.length_nil, Nat.zero_add] at HLI HVS ⊢
      obtain ⟨⟨b0, b1, b2, b3, b4, b5, b6, b7⟩, _⟩ := eight_blk (show Blk wc.drew g 38 #[.int .i64 6, .int .i64 1, .int .u64 (x0 : Int), .int .u64 (x1 : Int), .int .u64 (x2 : Int), .int .u64 (x3 : Int), .int .i64 0, .int .i64 0] from Blk.below HR.out (below_draws wc 1))
      have HK : Hid (Below wc.heap.size wc wc.drew) := Lib.hid (below_draws wc 1)
      go_wp2
      refine wp_region_noPanic ?_
      refine wp_region_any (by kernel_rfl) ?_
      show wpAny _ _ _ _ _ _ _ wc.drew
      refine takeA (i := 0) (d := some 29) (v := ?v19) rfl rfl (by kernel_rfl) (by kernel_rfl) (by kernel_rfl) (fun _ _ _ h => h) (Or.inl ⟨by rfl, ?hy19⟩) ?rest19
      case hy19 => (intro w9; first | (go_simp; done) | (go_simp; with_reducible rfl))
      try simp only [Act.put, List.setIfInBounds_toArray, List.set_cons_zero, List.set_cons_succ]
      refine twoA (i := 1) (j := 3) (by kernel_rfl) ?_ ?_
      · skip
        refine opA (d := some 30) rfl rfl (by rfl) (fun K hK => ?_)
        go_simp
        refine hK.out _ _ ?_
        clear hK K
        try simp only [Act.put, List.setIfInBounds_toArray, List.set_cons_zero, List.set_cons_succ]
        obtain ⟨wa20, hwa⟩ : ∃ x, x = wc.drew.alloc (.cells #[.int .i64 3, .int .i64 4, .int .i64 5, .int .i64 6, .int .i64 7, .int .i64 8] 3) := ⟨_, rfl⟩
        have HK := Lib.hid (show Below wc.heap.size wc wa20 from by rw [hwa]; exact grows HK.out (below_alloc _ _))
        have HROW := Lib.hid (show row wa20 (some ⟨wc.drew.heap.size, 0, none⟩) 6 (fun i => (Een.nth [3, 4, 5, 6, 7, 8] i : Int)) from by rw [hwa]; exact row_six _)
        obtain ⟨⟨e0, e1, e2, e3, e4, e5, e6, e7⟩, _⟩ := eight_blk (show Blk wa20 g 38 #[.int .i64 6, .int .i64 1, .int .u64 (x0 : Int), .int .u64 (x1 : Int), .int .u64 (x2 : Int), .int .u64 (x3 : Int), .int .i64 0, .int .i64 0] from Blk.below HR.out HK.out)
        show wpAny _ _ _ _ _ _ _ (wc.drew.alloc (.cells #[.int .i64 3, .int .i64 4, .int .i64 5, .int .i64 6, .int .i64 7, .int .i64 8] 3))
        rw [← hwa]
        clear hwa
        refine twoA (i := 2) (j := 3) (by kernel_rfl) ?_ ?_
        · skip
          refine opA (d := some 31) rfl rfl (by rfl) (fun K hK => ?_)
          go_simp
          go_at_call 29
          refine (HLI.out _ _ _ HK.out HROW.out).mono ?_
          rintro e wb21 ⟨rfl, k⟩
          try (have HROW := Lib.hid (HROW.out.below k))
          have HK := Lib.hid (show Below wc.heap.size wc wb21 from grows HK.out k)
          clear k
          obtain ⟨⟨e0, e1, e2, e3, e4, e5, e6, e7⟩, _⟩ := eight_blk (show Blk wb21 g 38 #[.int .i64 6, .int .i64 1, .int .u64 (x0 : Int), .int .u64 (x1 : Int), .int .u64 (x2 : Int), .int .u64 (x3 : Int), .int .i64 0, .int .i64 0] from Blk.below HR.out HK.out)
          refine hK.out _ _ ?_
          clear hK K
          try simp only [Act.put, List.setIfInBounds_toArray, List.set_cons_zero, List.set_cons_succ]
          refine oneA (i := 3) (by kernel_rfl) ?_
          refine opA (d := some 32) rfl rfl (by rfl) (fun K hK => ?_)
          go_simp
          refine hK.out _ _ ?_
          clear hK K
          try simp only [Act.put, List.setIfInBounds_toArray, List.set_cons_zero, List.set_cons_succ]
          refine oneA (i := 4) (by kernel_rfl) ?_
          refine opA (d := some 33) rfl rfl (by rfl) (fun K hK => ?_)
          go_simp
          go_at_call 30
          refine (HSG.out _ (HTC.out.below HK.out)).mono ?_
          rintro e wb23 ⟨rfl, k⟩
          try (have HROW := Lib.hid (HROW.out.below k))
          have HK := Lib.hid (show Below wc.heap.size wc wb23 from grows HK.out k)
          clear k
          obtain ⟨⟨e0, e1, e2, e3, e4, e5, e6, e7⟩, _⟩ := eight_blk (show Blk wb23 g 38 #[.int .i64 6, .int .i64 1, .int .u64 (x0 : Int), .int .u64 (x1 : Int), .int .u64 (x2 : Int), .int .u64 (x3 : Int), .int .i64 0, .int .i64 0] from Blk.below HR.out HK.out)
          refine hK.out _ _ ?_
          clear hK K
          try simp only [Act.put, List.setIfInBounds_toArray, List.set_cons_zero, List.set_cons_succ]
          refine takeA (i := 5) (d := some 34) (v := ?v24) rfl rfl (by kernel_rfl) (by kernel_rfl) (by kernel_rfl) (fun _ _ _ h => h) (Or.inl ⟨by rfl, ?hy24⟩) ?rest24
          case hy24 => (intro w9; first | (go_simp; done) | (go_simp; with_reducible rfl))
          try simp only [Act.put, List.setIfInBounds_toArray, List.set_cons_zero, List.set_cons_succ]
          refine takeA (i := 6) (d := some 2) (v := ?v25) rfl rfl (by kernel_rfl) (by kernel_rfl) (by kernel_rfl) (fun _ _ _ h => h) (Or.inl ⟨by rfl, ?hy25⟩) ?rest25
          case hy25 => (intro w9; first | (go_simp; done) | (go_simp; with_reducible rfl))
          try simp only [Act.put, List.setIfInBounds_toArray, List.set_cons_zero, List.set_cons_succ]
          refine wpAny_done (by kernel_rfl) ?_ _
          refine NoPanic.normal ?_
          simp only [Exit.then]
          go_wp2
          go_ret
          exact ⟨retS HRES.out, grows HB.out HK.out⟩
        · skip
          refine opA (d := some 32) rfl rfl (by rfl) (fun K hK => ?_)
          go_simp
          refine hK.out _ _ ?_
          clear hK K
          try simp only [Act.put, List.setIfInBounds_toArray, List.set_cons_zero, List.set_cons_succ]
          refine oneA (i := 2) (by kernel_rfl) ?_
          refine opA (d := some 31) rfl rfl (by rfl) (fun K hK => ?_)
          go_simp
          go_at_call 29
          refine (HLI.out _ _ _ HK.out HROW.out).mono ?_
          rintro e wb27 ⟨rfl, k⟩
          try (have HROW := Lib.hid (HROW.out.below k))
          have HK := Lib.hid (show Below wc.heap.size wc wb27 from grows HK.out k)
          clear k
          obtain ⟨⟨e0, e1, e2, e3, e4, e5, e6, e7⟩, _⟩ := eight_blk (show Blk wb27 g 38 #[.int .i64 6, .int .i64 1, .int .u64 (x0 : Int), .int .u64 (x1 : Int), .int .u64 (x2 : Int), .int .u64 (x3 : Int), .int .i64 0, .int .i64 0] from Blk.below HR.out HK.out)
          refine hK.out _ _ ?_
          clear hK K
          try simp only [Act.put, List.setIfInBounds_toArray, List.set_cons_zero, List.set_cons_succ]
          refine oneA (i := 4) (by kernel_rfl) ?_
          refine opA (d := some 33) rfl rfl (by rfl) (fun K hK => ?_)
          go_simp
          go_at_call 30
          refine (HSG.out _ (HTC.out.below HK.out)).mono ?_
          rintro e wb28 ⟨rfl, k⟩
          try (have HROW := Lib.hid (HROW.out.below k))
          have HK := Lib.hid (show Below wc.heap.size wc wb28 from grows HK.out k)
          clear k
          obtain ⟨⟨e0, e1, e2, e3, e4, e5, e6, e7⟩, _⟩ := eight_blk (show Blk wb28 g 38 #[.int .i64 6, .int .i64 1, .int .u64 (x0 : Int), .int .u64 (x1 : Int), .int .u64 (x2 : Int), .int .u64 (x3 : Int), .int .i64 0, .int .i64 0] from Blk.below HR.out HK.out)
          refine hK.out _ _ ?_
          clear hK K
          try simp only [Act.put, List.setIfInBounds_toArray, List.set_cons_zero, List.set_cons_succ]
          refine takeA (i := 5) (d := some 34) (v := ?v29) rfl rfl (by kernel_rfl) (by kernel_rfl) (by kernel_rfl) (fun _ _ _ h => h) (Or.inl ⟨by rfl, ?hy29⟩) ?rest29
          case hy29 => (intro w9; first | (go_simp; done) | (go_simp; with_reducible rfl))
          try simp only [Act.put, List.setIfInBounds_toArray, List.set_cons_zero, List.set_cons_succ]
          refine takeA (i := 6) (d := some 2) (v := ?v30) rfl rfl (by kernel_rfl) (by kernel_rfl) (by kernel_rfl) (fun _ _ _ h => h) (Or.inl ⟨by rfl, ?hy30⟩) ?rest30
          case hy30 => (intro w9; first | (go_simp; done) | (go_simp; with_reducible rfl))
          try simp only [Act.put, List.setIfInBounds_toArray, List.set_cons_zero, List.set_cons_succ]
          refine wpAny_done (by kernel_rfl) ?_ _
          refine NoPanic.normal ?_
          simp only [Exit.then]
          go_wp2
          go_ret
          exact ⟨retS HRES.out, grows HB.out HK.out⟩
      · skip
        refine opA (d := some 32) rfl rfl (by rfl) (fun K hK => ?_)
        go_simp
        refine hK.out _ _ ?_
        clear hK K
        try simp only [Act.put, List.setIfInBounds_toArray, List.set_cons_zero, List.set_cons_succ]
        refine oneA (i := 1) (by kernel_rfl) ?_
        refine opA (d := some 30) rfl rfl (by rfl) (fun K hK => ?_)
        go_simp
        refine hK.out _ _ ?_
        clear hK K
        try simp only [Act.put, List.setIfInBounds_toArray, List.set_cons_zero, List.set_cons_succ]
        obtain ⟨wa32, hwa⟩ : ∃ x, x = wc.drew.alloc (.cells #[.int .i64 3, .int .i64 4, .int .i64 5, .int .i64 6, .int .i64 7, .int .i64 8] 3) := ⟨_, rfl⟩
        have HK := Lib.hid (show Below wc.heap.size wc wa32 from by rw [hwa]; exact grows HK.out (below_alloc _ _))
        have HROW := Lib.hid (show row wa32 (some ⟨wc.drew.heap.size, 0, none⟩) 6 (fun i => (Een.nth [3, 4, 5, 6, 7, 8] i : Int)) from by rw [hwa]; exact row_six _)
        obtain ⟨⟨e0, e1, e2, e3, e4, e5, e6, e7⟩, _⟩ := eight_blk (show Blk wa32 g 38 #[.int .i64 6, .int .i64 1, .int .u64 (x0 : Int), .int .u64 (x1 : Int), .int .u64 (x2 : Int), .int .u64 (x3 : Int), .int .i64 0, .int .i64 0] from Blk.below HR.out HK.out)
        show wpAny _ _ _ _ _ _ _ (wc.drew.alloc (.cells #[.int .i64 3, .int .i64 4, .int .i64 5, .int .i64 6, .int .i64 7, .int .i64 8] 3))
        rw [← hwa]
        clear hwa
        refine oneA (i := 2) (by kernel_rfl) ?_
        refine opA (d := some 31) rfl rfl (by rfl) (fun K hK => ?_)
        go_simp
        go_at_call 29
        refine (HLI.out _ _ _ HK.out HROW.out).mono ?_
        rintro e wb33 ⟨rfl, k⟩
        try (have HROW := Lib.hid (HROW.out.below k))
        have HK := Lib.hid (show Below wc.heap.size wc wb33 from grows HK.out k)
        clear k
        obtain ⟨⟨e0, e1, e2, e3, e4, e5, e6, e7⟩, _⟩ := eight_blk (show Blk wb33 g 38 #[.int .i64 6, .int .i64 1, .int .u64 (x0 : Int), .int .u64 (x1 : Int), .int .u64 (x2 : Int), .int .u64 (x3 : Int), .int .i64 0, .int .i64 0] from Blk.below HR.out HK.out)
        refine hK.out _ _ ?_
        clear hK K
        try simp only [Act.put, List.setIfInBounds_toArray, List.set_cons_zero, List.set_cons_succ]
        refine oneA (i := 4) (by kernel_rfl) ?_
        refine opA (d := some 33) rfl rfl (by rfl) (fun K hK => ?_)
        go_simp
        go_at_call 30
        refine (HSG.out _ (HTC.out.below HK.out)).mono ?_
        rintro e wb34 ⟨rfl, k⟩
        try (have HROW := Lib.hid (HROW.out.below k))
        have HK := Lib.hid (show Below wc.heap.size wc wb34 from grows HK.out k)
        clear k
        obtain ⟨⟨e0, e1, e2, e3, e4, e5, e6, e7⟩, _⟩ := eight_blk (show Blk wb34 g 38 #[.int .i64 6, .int .i64 1, .int .u64 (x0 : Int), .int .u64 (x1 : Int), .int .u64 (x2 : Int), .int .u64 (x3 : Int), .int .i64 0, .int .i64 0] from Blk.below HR.out HK.out)
        refine hK.out _ _ ?_
        clear hK K
        try simp only [Act.put, List.setIfInBounds_toArray, List.set_cons_zero, List.set_cons_succ]
        refine takeA (i := 5) (d := some 34) (v := ?v35) rfl rfl (by kernel_rfl) (by kernel_rfl) (by kernel_rfl) (fun _ _ _ h => h) (Or.inl ⟨by rfl, ?hy35⟩) ?rest35
        case hy35 => (intro w9; first | (go_simp; done) | (go_simp; with_reducible rfl))
        try simp only [Act.put, List.setIfInBounds_toArray, List.set_cons_zero, List.set_cons_succ]
        refine takeA (i := 6) (d := some 2) (v := ?v36) rfl rfl (by kernel_rfl) (by kernel_rfl) (by kernel_rfl) (fun _ _ _ h => h) (Or.inl ⟨by rfl, ?hy36⟩) ?rest36
        case hy36 => (intro w9; first | (go_simp; done) | (go_simp; with_reducible rfl))
        try simp only [Act.put, List.setIfInBounds_toArray, List.set_cons_zero, List.set_cons_succ]
        refine wpAny_done (by kernel_rfl) ?_ _
        refine NoPanic.normal ?_
        simp only [Exit.then]
        go_wp2
        go_ret
        exact ⟨retS HRES.out, grows HB.out HK.out⟩
  | opt u =>
    dsimp only [hd, kidsT] at a0 a1 a6 a7 HS HCh HAsk HKL HLEN HK4 HXS
    have RA : Blk (w.alloc (.cells #[.int .i64 0, .int .i64 0, .int .u64 0, .int .u64 0, .int .u64 0, .int .u64 0, .int .i64 0, .int .i64 0] 38)).drew w.heap.size 38 #[.int .i64 0, .int .i64 0, .int .u64 0, .int .u64 0, .int .u64 0, .int .u64 0, .int .i64 0, .int .i64 0] := Blk.fresh w _ _
    have BE : Below w.heap.size w (w.alloc (.cells #[.int .i64 0, .int .i64 0, .int .u64 0, .int .u64 0, .int .u64 0, .int .u64 0, .int .i64 0, .int .i64 0] 38)).drew := (below_alloc w _).drew
    have RB : Blk (w.alloc (.cells #[.int .i64 7, .int .i64 1, .int .u64 (x0 : Int), .int .u64 (x1 : Int), .int .u64 (x2 : Int), .int .u64 (x3 : Int), .int .i64 0, .int .i64 0] 38)).drew w.heap.size 38 #[.int .i64 7, .int .i64 1, .int .u64 (x0 : Int), .int .u64 (x1 : Int), .int .u64 (x2 : Int), .int .u64 (x3 : Int), .int .i64 0, .int .i64 0] := Blk.fresh w _ _
    have BF : Below w.heap.size w (w.alloc (.cells #[.int .i64 7, .int .i64 1, .int .u64 (x0 : Int), .int .u64 (x1 : Int), .int .u64 (x2 : Int), .int .u64 (x3 : Int), .int .i64 0, .int .i64 0] 38)).drew := (below_alloc w _).drew
    have HRB := Lib.hid RB
    have HBF := Lib.hid BF
    have HSA : Hid ((w.alloc (.cells #[.int .i64 0, .int .i64 0, .int .u64 0, .int .u64 0, .int .u64 0, .int .u64 0, .int .i64 0, .int .i64 0] 38)).drew.heap.size = w.heap.size + 1) := Lib.hid (size_alloc _ _)
    have HRA := Lib.hid RA
    have HBE := Lib.hid BE
    clear RA BE RB BF
    go_enter Tryd.func20, Tryd.ntmps20
    go_upto_region 1 with fail
    go_cut [3, 4] (fun s3 s4 wx => ∃ (g : Nat) (v : Value) (L : List Value), s3 = .pointer (some ⟨g, 0, none⟩) ∧ s4 = v ∧ Hid (Blk wx g 38 #[.int .i64 7, .int .i64 1, .int .u64 (x0 : Int), .int .u64 (x1 : Int), .int .u64 (x2 : Int), .int .u64 (x3 : Int), .int .i64 0, .int .i64 0]) ∧ Hid (∃ base, vs wx base 22 v L) ∧ Hid (kidV w L [u]) ∧ Hid (Below w.heap.size w wx))
    case first =>
      have KD := And.intro (HS.out w.drew (below_draws w 1)) (below_draws w 1)
      obtain ⟨⟨b0, b1, b2, b3, b4, b5, b6, b7⟩, bd⟩ := KD
      go_region_held3 (fun u => u.cell? ⟨b, off, none⟩ = some (.int .i64 7) ∧ u.cell? ⟨b, off + 1, none⟩ = some (.int .i64 1) ∧ u.cell? ⟨b, off + 2, none⟩ = some (.int .u64 (x0 : Int)) ∧ u.cell? ⟨b, off + 3, none⟩ = some (.int .u64 (x1 : Int)) ∧ u.cell? ⟨b, off + 4, none⟩ = some (.int .u64 (x2 : Int)) ∧ u.cell? ⟨b, off + 5, none⟩ = some (.int .u64 (x3 : Int)) ∧ u.cell? ⟨b, off + 6, none⟩ = some (.int .i64 0) ∧ u.cell? ⟨b, off + 7, none⟩ = some (.int .i64 0) ∧ Below w.heap.size w u)
        (first | (with_reducible exact and9 (HS.out _ HBE.out) HBE.out) | (with_reducible exact and9 (HS.out _ HBF.out) HBF.out) | (with_reducible exact and9 (HS.out _ (KB1.alloc KB1.size _)) (KB1.alloc KB1.size _)) | (with_reducible exact and9 (HS.out _ (over8_below KB1 (Nat.le_refl _) KB1.size (.int .i64 7) (.int .i64 1) (.int .u64 (x0 : Int)) (.int .u64 (x1 : Int)) (.int .u64 (x2 : Int)) (.int .u64 (x3 : Int)) (.int .i64 0) (.int .i64 0))) (over8_below KB1 (Nat.le_refl _) KB1.size (.int .i64 7) (.int .i64 1) (.int .u64 (x0 : Int)) (.int .u64 (x1 : Int)) (.int .u64 (x2 : Int)) (.int .u64 (x3 : Int)) (.int .i64 0) (.int .i64 0))) | (exact ⟨b0, b1, b2, b3, b4, b5, b6, b7, bd⟩) | (exact ⟨c0, c1, c2, c3, c4, c5, c6, c7, KB1⟩) | assumption)
        (first | (go_at_call 27; refine (HCh.out _ (by first | (with_reducible exact bd) | (with_reducible exact HBE.out) | (with_reducible exact HBF.out) | exact below_draws w 1)).mono ?_; rintro e w1 ⟨v1, L1, rfl, hv1, hk1, k1⟩; have KB1 := grows (show Below w.heap.size w _ by first | (with_reducible exact bd) | (with_reducible exact HBE.out) | (with_reducible exact HBF.out) | exact below_draws w 1) k1; obtain ⟨c0, c1, c2, c3, c4, c5, c6, c7⟩ := HS.out w1 KB1; have HV1 := Lib.hid hv1; have HK1 := Lib.hid hk1; have HK9 := Lib.hid k1; clear hv1 hk1; try (obtain ⟨⟨r0, r1, r2, r3, r4, r5, r6, r7⟩, f0, f1, f2, f3, f4, f5, f6, f7⟩ := eight_blk (Blk.below HRA.out k1)); clear k1))
      all_goals
        simp only [Exit.then]
        go_wp2
        go_meet
        first
        | (with_reducible exact ⟨_, _, L1, rfl, rfl, Lib.hid (Blk.fresh w1 _ _), Lib.hid ⟨_, HV1.out.below (below_alloc w1 _)⟩, HK1, Lib.hid (KB1.alloc KB1.size _)⟩)
        | (with_reducible exact ⟨_, _, L1, rfl, rfl, Lib.hid (Blk.below HRB.out HK9.out), Lib.hid ⟨_, HV1.out⟩, HK1, Lib.hid KB1⟩)
        | (with_reducible exact ⟨_, _, L1, rfl, rfl, Lib.hid (over8_blk (Blk.below HRA.out HK9.out) (.int .i64 7) (.int .i64 1) (.int .u64 (x0 : Int)) (.int .u64 (x1 : Int)) (.int .u64 (x2 : Int)) (.int .u64 (x3 : Int)) (.int .i64 0) (.int .i64 0)), Lib.hid ⟨_, HV1.out.only (over8_only w1 w.heap.size (.int .i64 7) (.int .i64 1) (.int .u64 (x0 : Int)) (.int .u64 (x1 : Int)) (.int .u64 (x2 : Int)) (.int .u64 (x3 : Int)) (.int .i64 0) (.int .i64 0)) (fun i hi e => by have h1 := HV1.out.lo i hi; have h2 := HSA.out; omega)⟩, HK1, Lib.hid (over8_below KB1 (Nat.le_refl _) KB1.size (.int .i64 7) (.int .i64 1) (.int .u64 (x0 : Int)) (.int .u64 (x1 : Int)) (.int .u64 (x2 : Int)) (.int .u64 (x3 : Int)) (.int .i64 0) (.int .i64 0))⟩)
    case rest =>
      obtain ⟨g, v, L, rfl, rfl, HR, HVV, HK, HB⟩ := hcut
      obtain ⟨⟨r0, r1, r2, r3, r4, r5, r6, r7⟩, _⟩ := eight_blk HR.out
      obtain ⟨bs, hvs⟩ := HVV.out
      have HVS := Lib.hid hvs
      have HKC := Lib.hid (kidV.below HK.out HB.out)
      obtain ⟨AV, CV, hav, _⟩ := hvs.le
      subst hav
      rw [HKC.out.1] at HVS ⊢
      clear hvs HVV HK HCh HS HRA HBE HRB HBF
      generalize wc = wc at *
      have HSG : Hid (∀ x, tab x → Calls Tryd.prog 30 #[.agg #[.int .i64 7, .int .i64 1, .int .u64 (x0 : Int), .int .u64 (x1 : Int), .int .u64 (x2 : Int), .int .u64 (x3 : Int), .int .i64 0, .int .i64 0]] x fun e w' => e = .returned (.string (str [63])) ∧ Below x.heap.size x w') := Lib.hid (fun x ht => sign_kind 0 0 1 _ _ _ _ (by decide) x)
      have HTC := Lib.hid (HT.out.below HB.out)
      obtain ⟨SG, hSG⟩ : ∃ SG, SG = str [63] := ⟨_, rfl⟩
      have HLI : Hid (∀ x K kc, Below wc.heap.size wc x → row x K 6 (fun i => (Een.nth [3, 4, 5, 6, 7, 8] i : Int)) → Calls Tryd.prog 29 #[.slice AV [u].length CV, .string ⟨#[]⟩, .slice K 6 kc] x fun e w' => e = .returned (.string (str (Rt.par (!Rt.isAtm u) (Rt.tx u)))) ∧ Below x.heap.size x w') := Lib.hid (fun x K kc hb hr => by
        have hj := one_join u
        have h := list_any (ts := [u]) (ks := [3, 4, 5, 6, 7, 8]) (sep := []) (kc := kc) (by simp) (by simp) (by decide) (w0 := wc) (Lib.hid hb) (Lib.hid (HVS.out.below hb)) HKC (Lib.hid hr) (Lib.hid (HTC.out.below hb)) HAsk HLEN.out (by rw [hj]; have h1 := par_len (!Rt.isAtm u) (Rt.tx u); have h2 := (HLEN.out u (by simp)).2; omega)
        rw [hj] at h
        exact h)
      obtain ⟨SL, hSL⟩ : ∃ SL, SL = str (Rt.par (!Rt.isAtm u) (Rt.tx u)) := ⟨_, rfl⟩
      have hz1 : SL.size ≤ 2000000 := by rw [hSL, str_size]; have h1 := par_len (!Rt.isAtm u) (Rt.tx u); have h2 := (HLEN.out u (by simp)).2; omega
      have hz2 : SG.size ≤ 100 := by rw [hSG, str_size]; decide
      have hz3 : ¬ 9223372036854775807 < SL.size + SG.size := by omega
      have HRES : Hid (SL ++ SG = str (Rt.tx (.opt u))) := Lib.hid (by rw [hSL, hSG, str_app, Rt.tx])
      rw [← hSL] at HLI
      rw [← hSG] at HSG
      clear hSL hSG
      dsimp only [List.length_cons, List.length_nil, Nat.zero_add] at HLI HVS ⊢
      obtain ⟨⟨b0, b1, b2, b3, b4, b5, b6, b7⟩, _⟩ := eight_blk (show Blk wc.drew g 38 #[.int .i64 7, .int .i64 1, .int .u64 (x0 : Int), .int .u64 (x1 : Int), .int .u64 (x2 : Int), .int .u64 (x3 : Int), .int .i64 0, .int .i64 0] from Blk.below HR.out (below_draws wc 1))
      have HK : Hid (Below wc.heap.size wc wc.drew) := Lib.hid (below_draws wc 1)
      go_wp2
      refine wp_region_noPanic ?_
      refine wp_region_any (by kernel_rfl) ?_
      show wpAny _ _ _ _ _ _ _ wc.drew
      refine takeA (i := 0) (d := some 29) (v := ?v37) rfl rfl (by kernel_rfl) (by kernel_rfl) (by kernel_rfl) (fun _ _ _ h => h) (Or.inl ⟨by rfl, ?hy37⟩) ?rest37
      case hy37 => (intro w9; first | (go_simp; done) | (go_simp; with_reducible rfl))
      try simp only [Act.put, List.setIfInBounds_toArray, List.set_cons_zero, List.set_cons_succ]
      refine twoA (i := 1) (j := 3) (by kernel_rfl) ?_ ?_
      · skip
        refine opA (d := some 30) rfl rfl (by rfl) (fun K hK => ?_)
        go_simp
        refine hK.out _ _ ?_
        clear hK K
        try simp only [Act.put, List.setIfInBounds_toArray, List.set_cons_zero, List.set_cons_succ]
        obtain ⟨wa38, hwa⟩ : ∃ x, x = wc.drew.alloc (.cells #[.int .i64 3, .int .i64 4, .int .i64 5, .int .i64 6, .int .i64 7, .int .i64 8] 3) := ⟨_, rfl⟩
        have HK := Lib.hid (show Below wc.heap.size wc wa38 from by rw [hwa]; exact grows HK.out (below_alloc _ _))
        have HROW := Lib.hid (show row wa38 (some ⟨wc.drew.heap.size, 0, none⟩) 6 (fun i => (Een.nth [3, 4, 5, 6, 7, 8] i : Int)) from by rw [hwa]; exact row_six _)
        obtain ⟨⟨e0, e1, e2, e3, e4, e5, e6, e7⟩, _⟩ := eight_blk (show Blk wa38 g 38 #[.int .i64 7, .int .i64 1, .int .u64 (x0 : Int), .int .u64 (x1 : Int), .int .u64 (x2 : Int), .int .u64 (x3 : Int), .int .i64 0, .int .i64 0] from Blk.below HR.out HK.out)
        show wpAny _ _ _ _ _ _ _ (wc.drew.alloc (.cells #[.int .i64 3, .int .i64 4, .int .i64 5, .int .i64 6, .int .i64 7, .int .i64 8] 3))
        rw [← hwa]
        clear hwa
        refine twoA (i := 2) (j := 3) (by kernel_rfl) ?_ ?_
        · skip
          refine opA (d := some 31) rfl rfl (by rfl) (fun K hK => ?_)
          go_simp
          go_at_call 29
          refine (HLI.out _ _ _ HK.out HROW.out).mono ?_
          rintro e wb39 ⟨rfl, k⟩
          try (have HROW := Lib.hid (HROW.out.below k))
          have HK := Lib.hid (show Below wc.heap.size wc wb39 from grows HK.out k)
          clear k
          obtain ⟨⟨e0, e1, e2, e3, e4, e5, e6, e7⟩, _⟩ := eight_blk (show Blk wb39 g 38 #[.int .i64 7, .int .i64 1, .int .u64 (x0 : Int), .int .u64 (x1 : Int), .int .u64 (x2 : Int), .int .u64 (x3 : Int), .int .i64 0, .int .i64 0] from Blk.below HR.out HK.out)
          refine hK.out _ _ ?_
          clear hK K
          try simp only [Act.put, List.setIfInBounds_toArray, List.set_cons_zero, List.set_cons_succ]
          refine oneA (i := 3) (by kernel_rfl) ?_
          refine opA (d := some 32) rfl rfl (by rfl) (fun K hK => ?_)
          go_simp
          refine hK.out _ _ ?_
          clear hK K
          try simp only [Act.put, List.setIfInBounds_toArray, List.set_cons_zero, List.set_cons_succ]
          refine oneA (i := 4) (by kernel_rfl) ?_
          refine opA (d := some 33) rfl rfl (by rfl) (fun K hK => ?_)
          go_simp
          go_at_call 30
          refine (HSG.out _ (HTC.out.below HK.out)).mono ?_
          rintro e wb41 ⟨rfl, k⟩
          try (have HROW := Lib.hid (HROW.out.below k))
          have HK := Lib.hid (show Below wc.heap.size wc wb41 from grows HK.out k)
          clear k
          obtain ⟨⟨e0, e1, e2, e3, e4, e5, e6, e7⟩, _⟩ := eight_blk (show Blk wb41 g 38 #[.int .i64 7, .int .i64 1, .int .u64 (x0 : Int), .int .u64 (x1 : Int), .int .u64 (x2 : Int), .int .u64 (x3 : Int), .int .i64 0, .int .i64 0] from Blk.below HR.out HK.out)
          refine hK.out _ _ ?_
          clear hK K
          try simp only [Act.put, List.setIfInBounds_toArray, List.set_cons_zero, List.set_cons_succ]
          refine takeA (i := 5) (d := some 34) (v := ?v42) rfl rfl (by kernel_rfl) (by kernel_rfl) (by kernel_rfl) (fun _ _ _ h => h) (Or.inl ⟨by rfl, ?hy42⟩) ?rest42
          case hy42 => (intro w9; first | (go_simp; done) | (go_simp; with_reducible rfl))
          try simp only [Act.put, List.setIfInBounds_toArray, List.set_cons_zero, List.set_cons_succ]
          refine takeA (i := 6) (d := some 2) (v := ?v43) rfl rfl (by kernel_rfl) (by kernel_rfl) (by kernel_rfl) (fun _ _ _ h => h) (Or.inl ⟨by rfl, ?hy43⟩) ?rest43
          case hy43 => (intro w9; first | (go_simp; done) | (go_simp; with_reducible rfl))
          try simp only [Act.put, List.setIfInBounds_toArray, List.set_cons_zero, List.set_cons_succ]
          refine wpAny_done (by kernel_rfl) ?_ _
          refine NoPanic.normal ?_
          simp only [Exit.then]
          go_wp2
          go_ret
          exact ⟨retS HRES.out, grows HB.out HK.out⟩
        · skip
          refine opA (d := some 32) rfl rfl (by rfl) (fun K hK => ?_)
          go_simp
          refine hK.out _ _ ?_
          clear hK K
          try simp only [Act.put, List.setIfInBounds_toArray, List.set_cons_zero, List.set_cons_succ]
          refine oneA (i := 2) (by kernel_rfl) ?_
          refine opA (d := some 31) rfl rfl (by rfl) (fun K hK => ?_)
          go_simp
          go_at_call 29
          refine (HLI.out _ _ _ HK.out HROW.out).mono ?_
          rintro e wb45 ⟨rfl, k⟩
          try (have HROW := Lib.hid (HROW.out.below k))
          have HK := Lib.hid (show Below wc.heap.size wc wb45 from grows HK.out k)
          clear k
          obtain ⟨⟨e0, e1, e2, e3, e4, e5, e6, e7⟩, _⟩ := eight_blk (show Blk wb45 g 38 #[.int .i64 7, .int .i64 1, .int .u64 (x0 : Int), .int .u64 (x1 : Int), .int .u64 (x2 : Int), .int .u64 (x3 : Int), .int .i64 0, .int .i64 0] from Blk.below HR.out HK.out)
          refine hK.out _ _ ?_
          clear hK K
          try simp only [Act.put, List.setIfInBounds_toArray, List.set_cons_zero, List.set_cons_succ]
          refine oneA (i := 4) (by kernel_rfl) ?_
          refine opA (d := some 33) rfl rfl (by rfl) (fun K hK => ?_)
          go_simp
          go_at_call 30
          refine (HSG.out _ (HTC.out.below HK.out)).mono ?_
          rintro e wb46 ⟨rfl, k⟩
          try (have HROW := Lib.hid (HROW.out.below k))
          have HK := Lib.hid (show Below wc.heap.size wc wb46 from grows HK.out k)
          clear k
          obtain ⟨⟨e0, e1, e2, e3, e4, e5, e6, e7⟩, _⟩ := eight_blk (show Blk wb46 g 38 #[.int .i64 7, .int .i64 1, .int .u64 (x0 : Int), .int .u64 (x1 : Int), .int .u64 (x2 : Int), .int .u64 (x3 : Int), .int .i64 0, .int .i64 0] from Blk.below HR.out HK.out)
          refine hK.out _ _ ?_
          clear hK K
          try simp only [Act.put, List.setIfInBounds_toArray, List.set_cons_zero, List.set_cons_succ]
          refine takeA (i := 5) (d := some 34) (v := ?v47) rfl rfl (by kernel_rfl) (by kernel_rfl) (by kernel_rfl) (fun _ _ _ h => h) (Or.inl ⟨by rfl, ?hy47⟩) ?rest47
          case hy47 => (intro w9; first | (go_simp; done) | (go_simp; with_reducible rfl))
          try simp only [Act.put, List.setIfInBounds_toArray, List.set_cons_zero, List.set_cons_succ]
          refine takeA (i := 6) (d := some 2) (v := ?v48) rfl rfl (by kernel_rfl) (by kernel_rfl) (by kernel_rfl) (fun _ _ _ h => h) (Or.inl ⟨by rfl, ?hy48⟩) ?rest48
          case hy48 => (intro w9; first | (go_simp; done) | (go_simp; with_reducible rfl))
          try simp only [Act.put, List.setIfInBounds_toArray, List.set_cons_zero, List.set_cons_succ]
          refine wpAny_done (by kernel_rfl) ?_ _
          refine NoPanic.normal ?_
          simp only [Exit.then]
          go_wp2
          go_ret
          exact ⟨retS HRES.out, grows HB.out HK.out⟩
      · skip
        refine opA (d := some 32) rfl rfl (by rfl) (fun K hK => ?_)
        go_simp
        refine hK.out _ _ ?_
        clear hK K
        try simp only [Act.put, List.setIfInBounds_toArray, List.set_cons_zero, List.set_cons_succ]
        refine oneA (i := 1) (by kernel_rfl) ?_
        refine opA (d := some 30) rfl rfl (by rfl) (fun K hK => ?_)
        go_simp
        refine hK.out _ _ ?_
        clear hK K
        try simp only [Act.put, List.setIfInBounds_toArray, List.set_cons_zero, List.set_cons_succ]
        obtain ⟨wa50, hwa⟩ : ∃ x, x = wc.drew.alloc (.cells #[.int .i64 3, .int .i64 4, .int .i64 5, .int .i64 6, .int .i64 7, .int .i64 8] 3) := ⟨_, rfl⟩
        have HK := Lib.hid (show Below wc.heap.size wc wa50 from by rw [hwa]; exact grows HK.out (below_alloc _ _))
        have HROW := Lib.hid (show row wa50 (some ⟨wc.drew.heap.size, 0, none⟩) 6 (fun i => (Een.nth [3, 4, 5, 6, 7, 8] i : Int)) from by rw [hwa]; exact row_six _)
        obtain ⟨⟨e0, e1, e2, e3, e4, e5, e6, e7⟩, _⟩ := eight_blk (show Blk wa50 g 38 #[.int .i64 7, .int .i64 1, .int .u64 (x0 : Int), .int .u64 (x1 : Int), .int .u64 (x2 : Int), .int .u64 (x3 : Int), .int .i64 0, .int .i64 0] from Blk.below HR.out HK.out)
        show wpAny _ _ _ _ _ _ _ (wc.drew.alloc (.cells #[.int .i64 3, .int .i64 4, .int .i64 5, .int .i64 6, .int .i64 7, .int .i64 8] 3))
        rw [← hwa]
        clear hwa
        refine oneA (i := 2) (by kernel_rfl) ?_
        refine opA (d := some 31) rfl rfl (by rfl) (fun K hK => ?_)
        go_simp
        go_at_call 29
        refine (HLI.out _ _ _ HK.out HROW.out).mono ?_
        rintro e wb51 ⟨rfl, k⟩
        try (have HROW := Lib.hid (HROW.out.below k))
        have HK := Lib.hid (show Below wc.heap.size wc wb51 from grows HK.out k)
        clear k
        obtain ⟨⟨e0, e1, e2, e3, e4, e5, e6, e7⟩, _⟩ := eight_blk (show Blk wb51 g 38 #[.int .i64 7, .int .i64 1, .int .u64 (x0 : Int), .int .u64 (x1 : Int), .int .u64 (x2 : Int), .int .u64 (x3 : Int), .int .i64 0, .int .i64 0] from Blk.below HR.out HK.out)
        refine hK.out _ _ ?_
        clear hK K
        try simp only [Act.put, List.setIfInBounds_toArray, List.set_cons_zero, List.set_cons_succ]
        refine oneA (i := 4) (by kernel_rfl) ?_
        refine opA (d := some 33) rfl rfl (by rfl) (fun K hK => ?_)
        go_simp
        go_at_call 30
        refine (HSG.out _ (HTC.out.below HK.out)).mono ?_
        rintro e wb52 ⟨rfl, k⟩
        try (have HROW := Lib.hid (HROW.out.below k))
        have HK := Lib.hid (show Below wc.heap.size wc wb52 from grows HK.out k)
        clear k
        obtain ⟨⟨e0, e1, e2, e3, e4, e5, e6, e7⟩, _⟩ := eight_blk (show Blk wb52 g 38 #[.int .i64 7, .int .i64 1, .int .u64 (x0 : Int), .int .u64 (x1 : Int), .int .u64 (x2 : Int), .int .u64 (x3 : Int), .int .i64 0, .int .i64 0] from Blk.below HR.out HK.out)
        refine hK.out _ _ ?_
        clear hK K
        try simp only [Act.put, List.setIfInBounds_toArray, List.set_cons_zero, List.set_cons_succ]
        refine takeA (i := 5) (d := some 34) (v := ?v53) rfl rfl (by kernel_rfl) (by kernel_rfl) (by kernel_rfl) (fun _ _ _ h => h) (Or.inl ⟨by rfl, ?hy53⟩) ?rest53
        case hy53 => (intro w9; first | (go_simp; done) | (go_simp; with_reducible rfl))
        try simp only [Act.put, List.setIfInBounds_toArray, List.set_cons_zero, List.set_cons_succ]
        refine takeA (i := 6) (d := some 2) (v := ?v54) rfl rfl (by kernel_rfl) (by kernel_rfl) (by kernel_rfl) (fun _ _ _ h => h) (Or.inl ⟨by rfl, ?hy54⟩) ?rest54
        case hy54 => (intro w9; first | (go_simp; done) | (go_simp; with_reducible rfl))
        try simp only [Act.put, List.setIfInBounds_toArray, List.set_cons_zero, List.set_cons_succ]
        refine wpAny_done (by kernel_rfl) ?_ _
        refine NoPanic.normal ?_
        simp only [Exit.then]
        go_wp2
        go_ret
        exact ⟨retS HRES.out, grows HB.out HK.out⟩
  | rep lo hi u =>
    dsimp only [hd, kidsT] at a0 a1 a6 a7 HS HCh HAsk HKL HLEN HK4 HXS
    have RA : Blk (w.alloc (.cells #[.int .i64 0, .int .i64 0, .int .u64 0, .int .u64 0, .int .u64 0, .int .u64 0, .int .i64 0, .int .i64 0] 38)).drew w.heap.size 38 #[.int .i64 0, .int .i64 0, .int .u64 0, .int .u64 0, .int .u64 0, .int .u64 0, .int .i64 0, .int .i64 0] := Blk.fresh w _ _
    have BE : Below w.heap.size w (w.alloc (.cells #[.int .i64 0, .int .i64 0, .int .u64 0, .int .u64 0, .int .u64 0, .int .u64 0, .int .i64 0, .int .i64 0] 38)).drew := (below_alloc w _).drew
    have RB : Blk (w.alloc (.cells #[.int .i64 8, .int .i64 1, .int .u64 (x0 : Int), .int .u64 (x1 : Int), .int .u64 (x2 : Int), .int .u64 (x3 : Int), .int .i64 (lo : Int), .int .i64 hi] 38)).drew w.heap.size 38 #[.int .i64 8, .int .i64 1, .int .u64 (x0 : Int), .int .u64 (x1 : Int), .int .u64 (x2 : Int), .int .u64 (x3 : Int), .int .i64 (lo : Int), .int .i64 hi] := Blk.fresh w _ _
    have BF : Below w.heap.size w (w.alloc (.cells #[.int .i64 8, .int .i64 1, .int .u64 (x0 : Int), .int .u64 (x1 : Int), .int .u64 (x2 : Int), .int .u64 (x3 : Int), .int .i64 (lo : Int), .int .i64 hi] 38)).drew := (below_alloc w _).drew
    have HRB := Lib.hid RB
    have HBF := Lib.hid BF
    have HSA : Hid ((w.alloc (.cells #[.int .i64 0, .int .i64 0, .int .u64 0, .int .u64 0, .int .u64 0, .int .u64 0, .int .i64 0, .int .i64 0] 38)).drew.heap.size = w.heap.size + 1) := Lib.hid (size_alloc _ _)
    have HRA := Lib.hid RA
    have HBE := Lib.hid BE
    clear RA BE RB BF
    go_enter Tryd.func20, Tryd.ntmps20
    go_upto_region 1 with fail
    go_cut [3, 4] (fun s3 s4 wx => ∃ (g : Nat) (v : Value) (L : List Value), s3 = .pointer (some ⟨g, 0, none⟩) ∧ s4 = v ∧ Hid (Blk wx g 38 #[.int .i64 8, .int .i64 1, .int .u64 (x0 : Int), .int .u64 (x1 : Int), .int .u64 (x2 : Int), .int .u64 (x3 : Int), .int .i64 (lo : Int), .int .i64 hi]) ∧ Hid (∃ base, vs wx base 22 v L) ∧ Hid (kidV w L [u]) ∧ Hid (Below w.heap.size w wx))
    case first =>
      have KD := And.intro (HS.out w.drew (below_draws w 1)) (below_draws w 1)
      obtain ⟨⟨b0, b1, b2, b3, b4, b5, b6, b7⟩, bd⟩ := KD
      go_region_held3 (fun u => u.cell? ⟨b, off, none⟩ = some (.int .i64 8) ∧ u.cell? ⟨b, off + 1, none⟩ = some (.int .i64 1) ∧ u.cell? ⟨b, off + 2, none⟩ = some (.int .u64 (x0 : Int)) ∧ u.cell? ⟨b, off + 3, none⟩ = some (.int .u64 (x1 : Int)) ∧ u.cell? ⟨b, off + 4, none⟩ = some (.int .u64 (x2 : Int)) ∧ u.cell? ⟨b, off + 5, none⟩ = some (.int .u64 (x3 : Int)) ∧ u.cell? ⟨b, off + 6, none⟩ = some (.int .i64 (lo : Int)) ∧ u.cell? ⟨b, off + 7, none⟩ = some (.int .i64 hi) ∧ Below w.heap.size w u)
        (first | (with_reducible exact and9 (HS.out _ HBE.out) HBE.out) | (with_reducible exact and9 (HS.out _ HBF.out) HBF.out) | (with_reducible exact and9 (HS.out _ (KB1.alloc KB1.size _)) (KB1.alloc KB1.size _)) | (with_reducible exact and9 (HS.out _ (over8_below KB1 (Nat.le_refl _) KB1.size (.int .i64 8) (.int .i64 1) (.int .u64 (x0 : Int)) (.int .u64 (x1 : Int)) (.int .u64 (x2 : Int)) (.int .u64 (x3 : Int)) (.int .i64 (lo : Int)) (.int .i64 hi))) (over8_below KB1 (Nat.le_refl _) KB1.size (.int .i64 8) (.int .i64 1) (.int .u64 (x0 : Int)) (.int .u64 (x1 : Int)) (.int .u64 (x2 : Int)) (.int .u64 (x3 : Int)) (.int .i64 (lo : Int)) (.int .i64 hi))) | (exact ⟨b0, b1, b2, b3, b4, b5, b6, b7, bd⟩) | (exact ⟨c0, c1, c2, c3, c4, c5, c6, c7, KB1⟩) | assumption)
        (first | (go_at_call 27; refine (HCh.out _ (by first | (with_reducible exact bd) | (with_reducible exact HBE.out) | (with_reducible exact HBF.out) | exact below_draws w 1)).mono ?_; rintro e w1 ⟨v1, L1, rfl, hv1, hk1, k1⟩; have KB1 := grows (show Below w.heap.size w _ by first | (with_reducible exact bd) | (with_reducible exact HBE.out) | (with_reducible exact HBF.out) | exact below_draws w 1) k1; obtain ⟨c0, c1, c2, c3, c4, c5, c6, c7⟩ := HS.out w1 KB1; have HV1 := Lib.hid hv1; have HK1 := Lib.hid hk1; have HK9 := Lib.hid k1; clear hv1 hk1; try (obtain ⟨⟨r0, r1, r2, r3, r4, r5, r6, r7⟩, f0, f1, f2, f3, f4, f5, f6, f7⟩ := eight_blk (Blk.below HRA.out k1)); clear k1))
      all_goals
        simp only [Exit.then]
        go_wp2
        go_meet
        first
        | (with_reducible exact ⟨_, _, L1, rfl, rfl, Lib.hid (Blk.fresh w1 _ _), Lib.hid ⟨_, HV1.out.below (below_alloc w1 _)⟩, HK1, Lib.hid (KB1.alloc KB1.size _)⟩)
        | (with_reducible exact ⟨_, _, L1, rfl, rfl, Lib.hid (Blk.below HRB.out HK9.out), Lib.hid ⟨_, HV1.out⟩, HK1, Lib.hid KB1⟩)
        | (with_reducible exact ⟨_, _, L1, rfl, rfl, Lib.hid (over8_blk (Blk.below HRA.out HK9.out) (.int .i64 8) (.int .i64 1) (.int .u64 (x0 : Int)) (.int .u64 (x1 : Int)) (.int .u64 (x2 : Int)) (.int .u64 (x3 : Int)) (.int .i64 (lo : Int)) (.int .i64 hi)), Lib.hid ⟨_, HV1.out.only (over8_only w1 w.heap.size (.int .i64 8) (.int .i64 1) (.int .u64 (x0 : Int)) (.int .u64 (x1 : Int)) (.int .u64 (x2 : Int)) (.int .u64 (x3 : Int)) (.int .i64 (lo : Int)) (.int .i64 hi)) (fun i hi e => by have h1 := HV1.out.lo i hi; have h2 := HSA.out; omega)⟩, HK1, Lib.hid (over8_below KB1 (Nat.le_refl _) KB1.size (.int .i64 8) (.int .i64 1) (.int .u64 (x0 : Int)) (.int .u64 (x1 : Int)) (.int .u64 (x2 : Int)) (.int .u64 (x3 : Int)) (.int .i64 (lo : Int)) (.int .i64 hi))⟩)
    case rest =>
      obtain ⟨g, v, L, rfl, rfl, HR, HVV, HK, HB⟩ := hcut
      obtain ⟨⟨r0, r1, r2, r3, r4, r5, r6, r7⟩, _⟩ := eight_blk HR.out
      obtain ⟨bs, hvs⟩ := HVV.out
      have HVS := Lib.hid hvs
      have HKC := Lib.hid (kidV.below HK.out HB.out)
      obtain ⟨AV, CV, hav, _⟩ := hvs.le
      subst hav
      rw [HKC.out.1] at HVS ⊢
      clear hvs HVV HK HCh HS HRA HBE HRB HBF
      generalize wc = wc at *
      have HSG : Hid (∀ x, tab x → Calls Tryd.prog 30 #[.agg #[.int .i64 8, .int .i64 1, .int .u64 (x0 : Int), .int .u64 (x1 : Int), .int .u64 (x2 : Int), .int .u64 (x3 : Int), .int .i64 (lo : Int), .int .i64 hi]] x fun e w' => e = .returned (.string (str (Rt.timQ lo hi))) ∧ Below x.heap.size x w') := Lib.hid (fun x ht => by have := HOK.out; unfold okT at this; exact sign_rep this.1 this.2.1 1 _ _ _ _ (Lib.hid ht))
      have HTC := Lib.hid (HT.out.below HB.out)
      obtain ⟨SG, hSG⟩ : ∃ SG, SG = str (Rt.timQ lo hi) := ⟨_, rfl⟩
      have HLI : Hid (∀ x K kc, Below wc.heap.size wc x → row x K 6 (fun i => (Een.nth [3, 4, 5, 6, 7, 8] i : Int)) → Calls Tryd.prog 29 #[.slice AV [u].length CV, .string ⟨#[]⟩, .slice K 6 kc] x fun e w' => e = .returned (.string (str (Rt.par (!Rt.isAtm u) (Rt.tx u)))) ∧ Below x.heap.size x w') := Lib.hid (fun x K kc hb hr => by
        have hj := one_join u
        have h := list_any (ts := [u]) (ks := [3, 4, 5, 6, 7, 8]) (sep := []) (kc := kc) (by simp) (by simp) (by decide) (w0 := wc) (Lib.hid hb) (Lib.hid (HVS.out.below hb)) HKC (Lib.hid hr) (Lib.hid (HTC.out.below hb)) HAsk HLEN.out (by rw [hj]; have h1 := par_len (!Rt.isAtm u) (Rt.tx u); have h2 := (HLEN.out u (by simp)).2; omega)
        rw [hj] at h
        exact h)
      obtain ⟨SL, hSL⟩ : ∃ SL, SL = str (Rt.par (!Rt.isAtm u) (Rt.tx u)) := ⟨_, rfl⟩
      have hz1 : SL.size ≤ 2000000 := by rw [hSL, str_size]; have h1 := par_len (!Rt.isAtm u) (Rt.tx u); have h2 := (HLEN.out u (by simp)).2; omega
      have hz2 : SG.size ≤ 100 := by rw [hSG, str_size]; have := timQ_len lo hi; omega
      have hz3 : ¬ 9223372036854775807 < SL.size + SG.size := by omega
      have HRES : Hid (SL ++ SG = str (Rt.tx (.rep lo hi u))) := Lib.hid (by rw [hSL, hSG, str_app, Rt.tx])
      rw [← hSL] at HLI
      rw [← hSG] at HSG
      clear hSL hSG
      dsimp only [List.length_cons, List.length_nil, Nat.zero_add] at HLI HVS ⊢
      obtain ⟨⟨b0, b1, b2, b3, b4, b5, b6, b7⟩, _⟩ := eight_blk (show Blk wc.drew g 38 #[.int .i64 8, .int .i64 1, .int .u64 (x0 : Int), .int .u64 (x1 : Int), .int .u64 (x2 : Int), .int .u64 (x3 : Int), .int .i64 (lo : Int), .int .i64 hi] from Blk.below HR.out (below_draws wc 1))
      have HK : Hid (Below wc.heap.size wc wc.drew) := Lib.hid (below_draws wc 1)
      go_wp2
      refine wp_region_noPanic ?_
      refine wp_region_any (by kernel_rfl) ?_
      show wpAny _ _ _ _ _ _ _ wc.drew
      refine takeA (i := 0) (d := some 29) (v := ?v55) rfl rfl (by kernel_rfl) (by kernel_rfl) (by kernel_rfl) (fun _ _ _ h => h) (Or.inl ⟨by rfl, ?hy55⟩) ?rest55
      case hy55 => (intro w9; first | (go_simp; done) | (go_simp; with_reducible rfl))
      try simp only [Act.put, List.setIfInBounds_toArray, List.set_cons_zero, List.set_cons_succ]
      refine twoA (i := 1) (j := 3) (by kernel_rfl) ?_ ?_
      · skip
        refine opA (d := some 30) rfl rfl (by rfl) (fun K hK => ?_)
        go_simp
        refine hK.out _ _ ?_
        clear hK K
        try simp only [Act.put, List.setIfInBounds_toArray, List.set_cons_zero, List.set_cons_succ]
        obtain ⟨wa56, hwa⟩ : ∃ x, x = wc.drew.alloc (.cells #[.int .i64 3, .int .i64 4, .int .i64 5, .int .i64 6, .int .i64 7, .int .i64 8] 3) := ⟨_, rfl⟩
        have HK := Lib.hid (show Below wc.heap.size wc wa56 from by rw [hwa]; exact grows HK.out (below_alloc _ _))
        have HROW := Lib.hid (show row wa56 (some ⟨wc.drew.heap.size, 0, none⟩) 6 (fun i => (Een.nth [3, 4, 5, 6, 7, 8] i : Int)) from by rw [hwa]; exact row_six _)
        obtain ⟨⟨e0, e1, e2, e3, e4, e5, e6, e7⟩, _⟩ := eight_blk (show Blk wa56 g 38 #[.int .i64 8, .int .i64 1, .int .u64 (x0 : Int), .int .u64 (x1 : Int), .int .u64 (x2 : Int), .int .u64 (x3 : Int), .int .i64 (lo : Int), .int .i64 hi] from Blk.below HR.out HK.out)
        show wpAny _ _ _ _ _ _ _ (wc.drew.alloc (.cells #[.int .i64 3, .int .i64 4, .int .i64 5, .int .i64 6, .int .i64 7, .int .i64 8] 3))
        rw [← hwa]
        clear hwa
        refine twoA (i := 2) (j := 3) (by kernel_rfl) ?_ ?_
        · skip
          refine opA (d := some 31) rfl rfl (by rfl) (fun K hK => ?_)
          go_simp
          go_at_call 29
          refine (HLI.out _ _ _ HK.out HROW.out).mono ?_
          rintro e wb57 ⟨rfl, k⟩
          try (have HROW := Lib.hid (HROW.out.below k))
          have HK := Lib.hid (show Below wc.heap.size wc wb57 from grows HK.out k)
          clear k
          obtain ⟨⟨e0, e1, e2, e3, e4, e5, e6, e7⟩, _⟩ := eight_blk (show Blk wb57 g 38 #[.int .i64 8, .int .i64 1, .int .u64 (x0 : Int), .int .u64 (x1 : Int), .int .u64 (x2 : Int), .int .u64 (x3 : Int), .int .i64 (lo : Int), .int .i64 hi] from Blk.below HR.out HK.out)
          refine hK.out _ _ ?_
          clear hK K
          try simp only [Act.put, List.setIfInBounds_toArray, List.set_cons_zero, List.set_cons_succ]
          refine oneA (i := 3) (by kernel_rfl) ?_
          refine opA (d := some 32) rfl rfl (by rfl) (fun K hK => ?_)
          go_simp
          refine hK.out _ _ ?_
          clear hK K
          try simp only [Act.put, List.setIfInBounds_toArray, List.set_cons_zero, List.set_cons_succ]
          refine oneA (i := 4) (by kernel_rfl) ?_
          refine opA (d := some 33) rfl rfl (by rfl) (fun K hK => ?_)
          go_simp
          go_at_call 30
          refine (HSG.out _ (HTC.out.below HK.out)).mono ?_
          rintro e wb59 ⟨rfl, k⟩
          try (have HROW := Lib.hid (HROW.out.below k))
          have HK := Lib.hid (show Below wc.heap.size wc wb59 from grows HK.out k)
          clear k
          obtain ⟨⟨e0, e1, e2, e3, e4, e5, e6, e7⟩, _⟩ := eight_blk (show Blk wb59 g 38 #[.int .i64 8, .int .i64 1, .int .u64 (x0 : Int), .int .u64 (x1 : Int), .int .u64 (x2 : Int), .int .u64 (x3 : Int), .int .i64 (lo : Int), .int .i64 hi] from Blk.below HR.out HK.out)
          refine hK.out _ _ ?_
          clear hK K
          try simp only [Act.put, List.setIfInBounds_toArray, List.set_cons_zero, List.set_cons_succ]
          refine takeA (i := 5) (d := some 34) (v := ?v60) rfl rfl (by kernel_rfl) (by kernel_rfl) (by kernel_rfl) (fun _ _ _ h => h) (Or.inl ⟨by rfl, ?hy60⟩) ?rest60
          case hy60 => (intro w9; first | (go_simp; done) | (go_simp; with_reducible rfl))
          try simp only [Act.put, List.setIfInBounds_toArray, List.set_cons_zero, List.set_cons_succ]
          refine takeA (i := 6) (d := some 2) (v := ?v61) rfl rfl (by kernel_rfl) (by kernel_rfl) (by kernel_rfl) (fun _ _ _ h => h) (Or.inl ⟨by rfl, ?hy61⟩) ?rest61
          case hy61 => (intro w9; first | (go_simp; done) | (go_simp; with_reducible rfl))
          try simp only [Act.put, List.setIfInBounds_toArray, List.set_cons_zero, List.set_cons_succ]
          refine wpAny_done (by kernel_rfl) ?_ _
          refine NoPanic.normal ?_
          simp only [Exit.then]
          go_wp2
          go_ret
          exact ⟨retS HRES.out, grows HB.out HK.out⟩
        · skip
          refine opA (d := some 32) rfl rfl (by rfl) (fun K hK => ?_)
          go_simp
          refine hK.out _ _ ?_
          clear hK K
          try simp only [Act.put, List.setIfInBounds_toArray, List.set_cons_zero, List.set_cons_succ]
          refine oneA (i := 2) (by kernel_rfl) ?_
          refine opA (d := some 31) rfl rfl (by rfl) (fun K hK => ?_)
          go_simp
          go_at_call 29
          refine (HLI.out _ _ _ HK.out HROW.out).mono ?_
          rintro e wb63 ⟨rfl, k⟩
          try (have HROW := Lib.hid (HROW.out.below k))
          have HK := Lib.hid (show Below wc.heap.size wc wb63 from grows HK.out k)
          clear k
          obtain ⟨⟨e0, e1, e2, e3, e4, e5, e6, e7⟩, _⟩ := eight_blk (show Blk wb63 g 38 #[.int .i64 8, .int .i64 1, .int .u64 (x0 : Int), .int .u64 (x1 : Int), .int .u64 (x2 : Int), .int .u64 (x3 : Int), .int .i64 (lo : Int), .int .i64 hi] from Blk.below HR.out HK.out)
          refine hK.out _ _ ?_
          clear hK K
          try simp only [Act.put, List.setIfInBounds_toArray, List.set_cons_zero, List.set_cons_succ]
          refine oneA (i := 4) (by kernel_rfl) ?_
          refine opA (d := some 33) rfl rfl (by rfl) (fun K hK => ?_)
          go_simp
          go_at_call 30
          refine (HSG.out _ (HTC.out.below HK.out)).mono ?_
          rintro e wb64 ⟨rfl, k⟩
          try (have HROW := Lib.hid (HROW.out.below k))
          have HK := Lib.hid (show Below wc.heap.size wc wb64 from grows HK.out k)
          clear k
          obtain ⟨⟨e0, e1, e2, e3, e4, e5, e6, e7⟩, _⟩ := eight_blk (show Blk wb64 g 38 #[.int .i64 8, .int .i64 1, .int .u64 (x0 : Int), .int .u64 (x1 : Int), .int .u64 (x2 : Int), .int .u64 (x3 : Int), .int .i64 (lo : Int), .int .i64 hi] from Blk.below HR.out HK.out)
          refine hK.out _ _ ?_
          clear hK K
          try simp only [Act.put, List.setIfInBounds_toArray, List.set_cons_zero, List.set_cons_succ]
          refine takeA (i := 5) (d := some 34) (v := ?v65) rfl rfl (by kernel_rfl) (by kernel_rfl) (by kernel_rfl) (fun _ _ _ h => h) (Or.inl ⟨by rfl, ?hy65⟩) ?rest65
          case hy65 => (intro w9; first | (go_simp; done) | (go_simp; with_reducible rfl))
          try simp only [Act.put, List.setIfInBounds_toArray, List.set_cons_zero, List.set_cons_succ]
          refine takeA (i := 6) (d := some 2) (v := ?v66) rfl rfl (by kernel_rfl) (by kernel_rfl) (by kernel_rfl) (fun _ _ _ h => h) (Or.inl ⟨by rfl, ?hy66⟩) ?rest66
          case hy66 => (intro w9; first | (go_simp; done) | (go_simp; with_reducible rfl))
          try simp only [Act.put, List.setIfInBounds_toArray, List.set_cons_zero, List.set_cons_succ]
          refine wpAny_done (by kernel_rfl) ?_ _
          refine NoPanic.normal ?_
          simp only [Exit.then]
          go_wp2
          go_ret
          exact ⟨retS HRES.out, grows HB.out HK.out⟩
      · skip
        refine opA (d := some 32) rfl rfl (by rfl) (fun K hK => ?_)
        go_simp
        refine hK.out _ _ ?_
        clear hK K
        try simp only [Act.put, List.setIfInBounds_toArray, List.set_cons_zero, List.set_cons_succ]
        refine oneA (i := 1) (by kernel_rfl) ?_
        refine opA (d := some 30) rfl rfl (by rfl) (fun K hK => ?_)
        go_simp
        refine hK.out _ _ ?_
        clear hK K
        try simp only [Act.put, List.setIfInBounds_toArray, List.set_cons_zero, List.set_cons_succ]
        obtain ⟨wa68, hwa⟩ : ∃ x, x = wc.drew.alloc (.cells #[.int .i64 3, .int .i64 4, .int .i64 5, .int .i64 6, .int .i64 7, .int .i64 8] 3) := ⟨_, rfl⟩
        have HK := Lib.hid (show Below wc.heap.size wc wa68 from by rw [hwa]; exact grows HK.out (below_alloc _ _))
        have HROW := Lib.hid (show row wa68 (some ⟨wc.drew.heap.size, 0, none⟩) 6 (fun i => (Een.nth [3, 4, 5, 6, 7, 8] i : Int)) from by rw [hwa]; exact row_six _)
        obtain ⟨⟨e0, e1, e2, e3, e4, e5, e6, e7⟩, _⟩ := eight_blk (show Blk wa68 g 38 #[.int .i64 8, .int .i64 1, .int .u64 (x0 : Int), .int .u64 (x1 : Int), .int .u64 (x2 : Int), .int .u64 (x3 : Int), .int .i64 (lo : Int), .int .i64 hi] from Blk.below HR.out HK.out)
        show wpAny _ _ _ _ _ _ _ (wc.drew.alloc (.cells #[.int .i64 3, .int .i64 4, .int .i64 5, .int .i64 6, .int .i64 7, .int .i64 8] 3))
        rw [← hwa]
        clear hwa
        refine oneA (i := 2) (by kernel_rfl) ?_
        refine opA (d := some 31) rfl rfl (by rfl) (fun K hK => ?_)
        go_simp
        go_at_call 29
        refine (HLI.out _ _ _ HK.out HROW.out).mono ?_
        rintro e wb69 ⟨rfl, k⟩
        try (have HROW := Lib.hid (HROW.out.below k))
        have HK := Lib.hid (show Below wc.heap.size wc wb69 from grows HK.out k)
        clear k
        obtain ⟨⟨e0, e1, e2, e3, e4, e5, e6, e7⟩, _⟩ := eight_blk (show Blk wb69 g 38 #[.int .i64 8, .int .i64 1, .int .u64 (x0 : Int), .int .u64 (x1 : Int), .int .u64 (x2 : Int), .int .u64 (x3 : Int), .int .i64 (lo : Int), .int .i64 hi] from Blk.below HR.out HK.out)
        refine hK.out _ _ ?_
        clear hK K
        try simp only [Act.put, List.setIfInBounds_toArray, List.set_cons_zero, List.set_cons_succ]
        refine oneA (i := 4) (by kernel_rfl) ?_
        refine opA (d := some 33) rfl rfl (by rfl) (fun K hK => ?_)
        go_simp
        go_at_call 30
        refine (HSG.out _ (HTC.out.below HK.out)).mono ?_
        rintro e wb70 ⟨rfl, k⟩
        try (have HROW := Lib.hid (HROW.out.below k))
        have HK := Lib.hid (show Below wc.heap.size wc wb70 from grows HK.out k)
        clear k
        obtain ⟨⟨e0, e1, e2, e3, e4, e5, e6, e7⟩, _⟩ := eight_blk (show Blk wb70 g 38 #[.int .i64 8, .int .i64 1, .int .u64 (x0 : Int), .int .u64 (x1 : Int), .int .u64 (x2 : Int), .int .u64 (x3 : Int), .int .i64 (lo : Int), .int .i64 hi] from Blk.below HR.out HK.out)
        refine hK.out _ _ ?_
        clear hK K
        try simp only [Act.put, List.setIfInBounds_toArray, List.set_cons_zero, List.set_cons_succ]
        refine takeA (i := 5) (d := some 34) (v := ?v71) rfl rfl (by kernel_rfl) (by kernel_rfl) (by kernel_rfl) (fun _ _ _ h => h) (Or.inl ⟨by rfl, ?hy71⟩) ?rest71
        case hy71 => (intro w9; first | (go_simp; done) | (go_simp; with_reducible rfl))
        try simp only [Act.put, List.setIfInBounds_toArray, List.set_cons_zero, List.set_cons_succ]
        refine takeA (i := 6) (d := some 2) (v := ?v72) rfl rfl (by kernel_rfl) (by kernel_rfl) (by kernel_rfl) (fun _ _ _ h => h) (Or.inl ⟨by rfl, ?hy72⟩) ?rest72
        case hy72 => (intro w9; first | (go_simp; done) | (go_simp; with_reducible rfl))
        try simp only [Act.put, List.setIfInBounds_toArray, List.set_cons_zero, List.set_cons_succ]
        refine wpAny_done (by kernel_rfl) ?_ _
        refine NoPanic.normal ?_
        simp only [Exit.then]
        go_wp2
        go_ret
        exact ⟨retS HRES.out, grows HB.out HK.out⟩
end Go.Proofs.YtabcehifdomolaaDoor.Esh
