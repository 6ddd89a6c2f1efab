/-
  The walk of collimatorlaw14.CharsetLaws where 'the first set has the byte' is false.
-/
import Derived.Test.YtdbeohfaaonbjaaTz
namespace Go.Proofs.Ytdbeohfaaonbjaa.charsetLaws.f
open Go.RowKit Go.Proofs.Ytdbeohfaaonbjaa.Vm Go.Proofs.Ytdbeohfaaonbjaa.Vo Go.Proofs.Ytdbeohfaaonbjaa.Bw Go.Proofs.Ytdbeohfaaonbjaa.Na Go.Proofs.Ytdbeohfaaonbjaa.Tm Go.Proofs.Ytdbeohfaaonbjaa.Ts Go.Proofs.Ytdbeohfaaonbjaa.Ta Go.Proofs.Ytdbeohfaaonbjaa.Tb Go.Proofs.Ytdbeohfaaonbjaa.Tc Go.Proofs.Ytdbeohfaaonbjaa.Td Go.Proofs.Ytdbeohfaaonbjaa.Te Go.Proofs.Ytdbeohfaaonbjaa.Tf Go.Proofs.Ytdbeohfaaonbjaa.Tj Go.Proofs.Ytdbeohfaaonbjaa.Th Go.Proofs.Ytdbeohfaaonbjaa.Ti Go.Proofs.Ytdbeohfaaonbjaa.Tn Go.Proofs.Ytdbeohfaaonbjaa.To Go.Proofs.Ytdbeohfaaonbjaa.Tq Go.Proofs.Ytdbeohfaaonbjaa.Tk Go.Proofs.Ytdbeohfaaonbjaa.Tz

/-- What the calls keep: three sets. -/
structure kept3 (W w : World) (ga gb gn : Nat) (a b n : List Nat) : Prop where
  a : Blk w ga 25 (sv a)
  b : Blk w gb 25 (sv b)
  n : Blk w gn 25 (sv n)
  w : Below W.heap.size W w
theorem kept3.next {W w w' : World} {ga gb gn : Nat} {a b n : List Nat} (h : kept3 W w ga gb gn a b n) (k : Below w.heap.size w w') : kept3 W w' ga gb gn a b n := ⟨h.a.below k, h.b.below k, h.n.below k, h.w.trans (k.mono h.w.size)⟩

section
variable {P : Program} {ops : Array Oper} {Q : Exit → Act → World → Prop} {md : Region.Mode} {S : World → Prop}
/-- One operation is taken first; the slot it fills is named. -/
theorem takeH {i : Nat} {oi : Oper} {d : Option Tmp} {v : Value} {fuel : Nat} {listed : Array Bool} {a : Act} {w : World} (hi : ops[i]? = some oi) (hd : oi.dst = d)
    (hs : Region.noSelect ops = true) (hf : Region.free md ops listed i = true) (hr : (Region.ready md ops listed).contains i = true)
    (hQ : ∀ c a w, Q (.panic c) (a.put d v) w → Q (.panic c) a w) (hy : YieldsIf P ops S oi v a) (hS : S w)
    (h : wpAnyH P md ops Q S fuel (listed.setIfInBounds i true) (a.put d v) w) : wpAnyH P md ops Q S (fuel + 1) listed a w := by
  subst hd
  exact wpAnyH_take hi hs hf hr hQ hy hS h
/-- One operation alone comes up next. -/
theorem readyH {i : Nat} {o : Oper} {d : Option Tmp} {fuel : Nat} {listed : Array Bool} {a : Act} {w : World} (ho : ops[i]? = some o) (hd : o.dst = d)
    (h : ∀ K' : Act → World → Prop, Shut (∀ a w, S w → (S w → wpAnyH P md ops Q S fuel (listed.setIfInBounds i true) a w) → K' a w) → if Region.wanted o (yielded ops a.tmps) = true then Oper.wp P o a w K' Q else K' (a.put d undef) w) :
    AllReadyH P md ops Q S fuel listed a w [i] := by
  subst hd
  exact AllReadyH.cons ho h AllReadyH.nil
end
theorem kq3_of {w u : World} {ga gb gn x0 x1 x2 x3 u0 u1 u2 u3 n0 n1 n2 n3 : Nat} (h : kept3 w u ga gb gn [x0, x1, x2, x3] [u0, u1, u2, u3] [n0, n1, n2, n3]) : u.cell? ⟨ga, 0, none⟩ = some (.int .u64 (x0 : Int)) ∧ u.cell? ⟨ga, 1, none⟩ = some (.int .u64 (x1 : Int)) ∧ u.cell? ⟨ga, 2, none⟩ = some (.int .u64 (x2 : Int)) ∧ u.cell? ⟨ga, 3, none⟩ = some (.int .u64 (x3 : Int)) ∧ u.cell? ⟨gb, 0, none⟩ = some (.int .u64 (u0 : Int)) ∧ u.cell? ⟨gb, 1, none⟩ = some (.int .u64 (u1 : Int)) ∧ u.cell? ⟨gb, 2, none⟩ = some (.int .u64 (u2 : Int)) ∧ u.cell? ⟨gb, 3, none⟩ = some (.int .u64 (u3 : Int)) ∧ u.cell? ⟨gn, 0, none⟩ = some (.int .u64 (n0 : Int)) ∧ u.cell? ⟨gn, 1, none⟩ = some (.int .u64 (n1 : Int)) ∧ u.cell? ⟨gn, 2, none⟩ = some (.int .u64 (n2 : Int)) ∧ u.cell? ⟨gn, 3, none⟩ = some (.int .u64 (n3 : Int)) ∧ kept3 w u ga gb gn [x0, x1, x2, x3] [u0, u1, u2, u3] [n0, n1, n2, n3] :=
  ⟨h.a.cell 0, h.a.cell 1, h.a.cell 2, h.a.cell 3, h.b.cell 0, h.b.cell 1, h.b.cell 2, h.b.cell 3, h.n.cell 0, h.n.cell 1, h.n.cell 2, h.n.cell 3, h⟩

set_option maxHeartbeats 4000000 in
set_option maxRecDepth 100000 in
theorem walk (a b : List Nat) (ci : Int) (ha : isSet a) (hb : isSet b) (w2 : (Lit.int .u8 ci).wf = true) (ht : has a ci.toNat = false) (w : World) :
    Calls Try.prog 5 #[.agg (sv a), .agg (sv b), .int .u8 ci] w fun e w' => e = .returned (.bool true) ∧ Below w.heap.size w w' := by
  obtain ⟨c, rfl, hc⟩ := wf8 w2
  obtain ⟨hz, hsz⟩ := zero_of_info infoS
  rw [sv_zero] at hz
  have hn := notL_set ha
  have hv := notL_set hb
  have ho := orL_set ha hb
  have hd := andL_set ha hb
  obtain ⟨sa, hsa⟩ : ∃ s : ByteArray, s = ⟨(bts a).toArray⟩ := ⟨_, rfl⟩
  have za : sa.size ≤ 256 := by rw [hsa]; exact bts_size a
  have hofs : ofS sa.data.toList = a := by rw [hsa]; exact ofS_byt ha
  have C1 := Lib.hid (fun w => Not_any ha w)
  have C2 := Lib.hid (fun w => Not_any hn w)
  have C3 := Lib.hid (fun w => Or_any ha hb w)
  have C4 := Lib.hid (fun w => Not_any ho w)
  have C5 := Lib.hid (fun w => Not_any hb w)
  have C6 := Lib.hid (fun w => And_any hn hv w)
  have C7 := Lib.hid (fun w => Has_any hn hc w)
  have C8 := Lib.hid (fun w => Has_any ha hc w)
  have C9 := Lib.hid (fun w => Has_any ho hc w)
  have C10 := Lib.hid (fun w => Has_any hb hc w)
  have C11 := Lib.hid (fun w => And_any ha hb w)
  have C12 := Lib.hid (fun w => Has_any hd hc w)
  have C13 := Lib.hid (fun w => Count_any ha w)
  have C14 := Lib.hid (fun w => Count_any hn w)
  have C15 := Lib.hid (fun w => Bytes_any ha w)
  have C16 := Lib.hid (fun w => Of_any sa w (by omega))
  rw [not_not ha] at C2
  rw [not_or ha hb] at C4
  rw [show ((c : Nat) : Int).toNat = c from rfl] at ht
  rw [has_not ha hc] at C7
  rw [has_or hc] at C9
  rw [has_and hc] at C12
  rw [← hsa] at C15
  rw [hofs] at C16
  have hm := andL_set hn hv
  have hcnt := byt_sum ha
  obtain ⟨Na, hNa⟩ : ∃ N, N = (byt a).length := ⟨_, rfl⟩
  obtain ⟨Nn, hNn⟩ : ∃ N, N = (byt (notL a)).length := ⟨_, rfl⟩
  rw [← hNa] at C13
  rw [← hNn] at C14
  have hsum : IntKind.i64.wrap ((Na : Int) + (Nn : Int)) = 256 := by rw [IntKind.wrap_i64]; omega
  have hNa6 : Na ≤ 256 := by omega
  have hNn6 : Nn ≤ 256 := by omega
  rw [ht] at C7 C8 C9 C12
  simp only [Bool.not_false, Bool.false_or, Bool.false_and] at C7 C9 C12
  generalize has b c = tb at *
  generalize andL (notL a) (notL b) = m at *
  generalize notL a = n at *
  generalize notL b = v at *
  generalize orL a b = o at *
  generalize andL a b = d at *
  obtain ⟨x0, x1, x2, x3, rfl⟩ := four_of ha
  obtain ⟨u0, u1, u2, u3, rfl⟩ := four_of hb
  obtain ⟨n0, n1, n2, n3, rfl⟩ := four_of hn
  obtain ⟨v0, v1, v2, v3, rfl⟩ := four_of hv
  obtain ⟨o0, o1, o2, o3, rfl⟩ := four_of ho
  obtain ⟨d0, d1, d2, d3, rfl⟩ := four_of hd
  obtain ⟨m0, m1, m2, m3, rfl⟩ := four_of hm
  have q1 := fun w => eq_same x0 x1 x2 x3 w
  have q2 := fun w => eq_same m0 m1 m2 m3 w
  obtain ⟨y1, y2, y3⟩ := two_start w 25 (sv [x0, x1, x2, x3]) (sv [u0, u1, u2, u3])
  obtain ⟨W2, hW2⟩ : ∃ W2, W2 = (w.alloc (.cells (sv [x0, x1, x2, x3]) 25)).alloc (.cells (sv [u0, u1, u2, u3]) 25) := ⟨_, rfl⟩
  rw [← hW2] at y1 y2 y3
  have Y1 := Lib.hid y1
  have Y2 := Lib.hid y2
  have Y3 := Lib.hid y3
  have HW2 := Lib.hid hW2
  simp only [sv_four] at C2 C3 C4 C5 C6 C7 C8 C9 C10 C11 C12 C13 C14 C15 C16
  have D1 : Hid (∀ u, Calls Try.prog 12 #[.agg (sv [x0, x1, x2, x3])] u fun e w' => e = .returned (.agg (sv [n0, n1, n2, n3])) ∧ Below u.heap.size u w') := C1
  clear C1 ht hcnt hNa hNn hofs hsa ha hb hn hv ho hd hm w2 y1 y2 y3 hW2 hsz
  go_enter Try.func5, Try.ntmps5
  go_wp2_with (first | (rw [← HW2.out]; refine wpList_load_row rfl 25 _ rfl w.heap.size rfl _ _ _ _ Y1.out Try.underlying25 rfl (fit (show (sv [x0, x1, x2, x3]).size = 4 from rfl)) ?_) | (go_at_call 12; (with_reducible refine (D1.out _).mono ?_); rintro e w3 ⟨rfl, k3⟩; have K3 := Lib.hid k3; clear k3; have HB3 := Lib.hid (Blk.fresh w3 25 (sv zero))) | refine wpList_store_row rfl 25 _ _ rfl w3.heap.size (sv [n0, n1, n2, n3]) rfl rfl _ _ HB3.out (fit (show (sv [n0, n1, n2, n3]).size = 4 from rfl)) (Eq.trans (sv4 zero_set) (Eq.symm (show (sv [n0, n1, n2, n3]).size = 4 from rfl))) (sv_one [n0, n1, n2, n3]) ?_)
  have K4 := Lib.hid (show kept3 w ((w3.alloc (.cells (sv zero) 25)).setRow w3.heap.size (sv [n0, n1, n2, n3])) w.heap.size (w.heap.size + 1) w3.heap.size [x0, x1, x2, x3] [u0, u1, u2, u3] [n0, n1, n2, n3] from
    ⟨Blk_other ((Y1.out.below K3.out).below (below_alloc _ _)) (by have h1 := (Y1.out.below K3.out).lt; omega), Blk_other ((Y2.out.below K3.out).below (below_alloc _ _)) (by have h1 := (Y2.out.below K3.out).lt; omega), Blk_row HB3.out, Below_setRow ((Y3.out.trans (K3.out.mono Y3.out.size)).alloc (Nat.le_trans Y3.out.size K3.out.size) _) (Nat.le_trans Y3.out.size K3.out.size) _⟩)
  generalize (w3.alloc (.cells (sv zero) 25)).setRow w3.heap.size (sv [n0, n1, n2, n3]) = w4 at *
  obtain ⟨ga, hga⟩ : ∃ g, g = w.heap.size := ⟨_, rfl⟩
  obtain ⟨gn, hgn⟩ : ∃ g, g = w3.heap.size := ⟨_, rfl⟩
  obtain ⟨gb, hgb⟩ : ∃ g, g = w.heap.size + 1 := ⟨_, rfl⟩
  rw [← hgb, ← hga, ← hgn] at K4
  rw [← hgb, ← hga, ← hgn]
  have KD := kq3_of (show kept3 w w4.drew ga gb gn [x0, x1, x2, x3] [u0, u1, u2, u3] [n0, n1, n2, n3] from ⟨K4.out.a, K4.out.b, K4.out.n, below_drew K4.out.w⟩)
  clear hga hgb hgn hz Y1 Y2 Y3 HW2 K3 HB3 D1 K4
  simp only [List.append]
  refine wp_region_held_drew (S := (fun u => u.cell? ⟨ga, 0, none⟩ = some (.int .u64 (x0 : Int)) ∧ u.cell? ⟨ga, 1, none⟩ = some (.int .u64 (x1 : Int)) ∧ u.cell? ⟨ga, 2, none⟩ = some (.int .u64 (x2 : Int)) ∧ u.cell? ⟨ga, 3, none⟩ = some (.int .u64 (x3 : Int)) ∧ u.cell? ⟨gb, 0, none⟩ = some (.int .u64 (u0 : Int)) ∧ u.cell? ⟨gb, 1, none⟩ = some (.int .u64 (u1 : Int)) ∧ u.cell? ⟨gb, 2, none⟩ = some (.int .u64 (u2 : Int)) ∧ u.cell? ⟨gb, 3, none⟩ = some (.int .u64 (u3 : Int)) ∧ u.cell? ⟨gn, 0, none⟩ = some (.int .u64 (n0 : Int)) ∧ u.cell? ⟨gn, 1, none⟩ = some (.int .u64 (n1 : Int)) ∧ u.cell? ⟨gn, 2, none⟩ = some (.int .u64 (n2 : Int)) ∧ u.cell? ⟨gn, 3, none⟩ = some (.int .u64 (n3 : Int)) ∧ kept3 w u ga gb gn [x0, x1, x2, x3] [u0, u1, u2, u3] [n0, n1, n2, n3])) (by kernel_rfl) KD (fun hHeld => ?_)
  refine takeH (i := 0) (d := some 10) (v := ?v1) rfl rfl (by kernel_rfl) (by kernel_rfl) (by kernel_rfl) (fun _ _ _ h => h) (Or.inl ⟨by rfl, ?hy1⟩) (by assumption) ?rest1
  case hy1 => (intro w9 hSw; (try dsimp only at hSw); first | (go_simp; done) | (go_simp; with_reducible rfl))
  try simp only [Act.put, List.setIfInBounds_toArray, List.set_cons_zero, List.set_cons_succ]
  refine takeH (i := 2) (d := some 12) (v := ?v2) rfl rfl (by kernel_rfl) (by kernel_rfl) (by kernel_rfl) (fun _ _ _ h => h) (Or.inl ⟨by rfl, ?hy2⟩) (by assumption) ?rest2
  case hy2 => (intro w9 hSw; (try dsimp only at hSw); first | (go_simp; done) | (go_simp; with_reducible rfl))
  try simp only [Act.put, List.setIfInBounds_toArray, List.set_cons_zero, List.set_cons_succ]
  refine wpAnyH_ready (rs := [1]) (by kernel_rfl) (by simp) ?_
  refine readyH (d := some 11) rfl rfl (fun K hK => ?_)
  go_simp
  go_at_call 12
  refine (C2.out _).mono ?_
  rintro e wq1 ⟨rfl, k9⟩
  have HS1 := kq3_of (KD.2.2.2.2.2.2.2.2.2.2.2.2.next k9)
  clear k9
  go_wp2_with fail
  refine hK.out _ _ HS1 (fun hHeld1 => ?_)
  clear hK K
  try simp only [Act.put, List.setIfInBounds_toArray, List.set_cons_zero, List.set_cons_succ]
  refine takeH (i := 3) (d := some 13) (v := ?v4) rfl rfl (by kernel_rfl) (by kernel_rfl) (by kernel_rfl) (fun _ _ _ h => h) (Or.inl ⟨by rfl, ?hy4⟩) (by assumption) ?rest4
  case hy4 => (intro w9 hSw; (try dsimp only at hSw); first | (go_simp; done) | (go_simp; with_reducible rfl))
  try simp only [Act.put, List.setIfInBounds_toArray, List.set_cons_zero, List.set_cons_succ]
  refine takeH (i := 4) (d := some 14) (v := ?v5) rfl rfl (by kernel_rfl) (by kernel_rfl) (by kernel_rfl) (fun _ _ _ h => h) (Or.inl ⟨by rfl, ?hy5⟩) (by assumption) ?rest5
  case hy5 => (intro w9 hSw; (try dsimp only at hSw); first | (go_simp; done) | (go_simp; with_reducible rfl))
  try simp only [Act.put, List.setIfInBounds_toArray, List.set_cons_zero, List.set_cons_succ]
  refine takeH (i := 5) (d := some 15) (v := ?v6) rfl rfl (by kernel_rfl) (by kernel_rfl) (by kernel_rfl) (fun _ _ _ h => h) (Or.inl ⟨by rfl, ?hy6⟩) (by assumption) ?rest6
  case hy6 => (intro w9 hSw; (try dsimp only at hSw); first | (go_simp; done) | (go_simp; with_reducible rfl))
  try simp only [Act.put, List.setIfInBounds_toArray, List.set_cons_zero, List.set_cons_succ]
  refine takeH (i := 6) (d := some 16) (v := ?v7) rfl rfl (by kernel_rfl) (by kernel_rfl) (by kernel_rfl) (fun _ _ _ h => h) (Or.inl ⟨by rfl, ?hy7⟩) (by assumption) ?rest7
  case hy7 => (intro w9 hSw; (try dsimp only at hSw); first | (go_simp; done) | (go_simp; with_reducible rfl))
  try simp only [Act.put, List.setIfInBounds_toArray, List.set_cons_zero, List.set_cons_succ]
  refine takeH (i := 9) (d := some 19) (v := ?v8) rfl rfl (by kernel_rfl) (by kernel_rfl) (by kernel_rfl) (fun _ _ _ h => h) (Or.inl ⟨by rfl, ?hy8⟩) (by assumption) ?rest8
  case hy8 => (intro w9 hSw; (try dsimp only at hSw); first | (go_simp; done) | (go_simp; with_reducible rfl))
  try simp only [Act.put, List.setIfInBounds_toArray, List.set_cons_zero, List.set_cons_succ]
  refine takeH (i := 10) (d := some 20) (v := ?v9) rfl rfl (by kernel_rfl) (by kernel_rfl) (by kernel_rfl) (fun _ _ _ h => h) (Or.inl ⟨by rfl, ?hy9⟩) (by assumption) ?rest9
  case hy9 => (intro w9 hSw; (try dsimp only at hSw); first | (go_simp; done) | (go_simp; with_reducible rfl))
  try simp only [Act.put, List.setIfInBounds_toArray, List.set_cons_zero, List.set_cons_succ]
  refine wpAnyH_ready (rs := [7]) (by kernel_rfl) (by simp) ?_
  refine readyH (d := some 17) rfl rfl (fun K hK => ?_)
  go_simp
  go_at_call 14
  refine (C3.out _).mono ?_
  rintro e wq7 ⟨rfl, k9⟩
  have HS7 := kq3_of (HS1.2.2.2.2.2.2.2.2.2.2.2.2.next k9)
  clear k9
  go_wp2_with fail
  refine hK.out _ _ HS7 (fun hHeld7 => ?_)
  clear hK K
  try simp only [Act.put, List.setIfInBounds_toArray, List.set_cons_zero, List.set_cons_succ]
  refine wpAnyH_ready (rs := [8]) (by kernel_rfl) (by simp) ?_
  refine readyH (d := some 18) rfl rfl (fun K hK => ?_)
  go_simp
  go_at_call 12
  refine (C4.out _).mono ?_
  rintro e wq8 ⟨rfl, k9⟩
  have HS8 := kq3_of (HS7.2.2.2.2.2.2.2.2.2.2.2.2.next k9)
  clear k9
  go_wp2_with fail
  refine hK.out _ _ HS8 (fun hHeld8 => ?_)
  clear hK K
  try simp only [Act.put, List.setIfInBounds_toArray, List.set_cons_zero, List.set_cons_succ]
  refine wpAnyH_ready (rs := [11]) (by kernel_rfl) (by simp) ?_
  refine readyH (d := some 21) rfl rfl (fun K hK => ?_)
  go_simp
  go_at_call 12
  refine (C5.out _).mono ?_
  rintro e wq11 ⟨rfl, k9⟩
  have HS11 := kq3_of (HS8.2.2.2.2.2.2.2.2.2.2.2.2.next k9)
  clear k9
  go_wp2_with fail
  refine hK.out _ _ HS11 (fun hHeld11 => ?_)
  clear hK K
  try simp only [Act.put, List.setIfInBounds_toArray, List.set_cons_zero, List.set_cons_succ]
  refine wpAnyH_ready (rs := [12]) (by kernel_rfl) (by simp) ?_
  refine readyH (d := some 22) rfl rfl (fun K hK => ?_)
  go_simp
  go_at_call 16
  refine (C6.out _).mono ?_
  rintro e wq12 ⟨rfl, k9⟩
  have HS12 := kq3_of (HS11.2.2.2.2.2.2.2.2.2.2.2.2.next k9)
  clear k9
  go_wp2_with fail
  refine hK.out _ _ HS12 (fun hHeld12 => ?_)
  clear hK K
  try simp only [Act.put, List.setIfInBounds_toArray, List.set_cons_zero, List.set_cons_succ]
  refine takeH (i := 13) (d := some 23) (v := ?v14) rfl rfl (by kernel_rfl) (by kernel_rfl) (by kernel_rfl) (fun _ _ _ h => h) (Or.inl ⟨by rfl, ?hy14⟩) (by assumption) ?rest14
  case hy14 => (intro w9 hSw; (try dsimp only at hSw); first | (go_simp; done) | (go_simp; with_reducible rfl))
  try simp only [Act.put, List.setIfInBounds_toArray, List.set_cons_zero, List.set_cons_succ]
  refine takeH (i := 14) (d := some 24) (v := ?v15) rfl rfl (by kernel_rfl) (by kernel_rfl) (by kernel_rfl) (fun _ _ _ h => h) (Or.inl ⟨by rfl, ?hy15⟩) (by assumption) ?rest15
  case hy15 => (intro w9 hSw; (try dsimp only at hSw); first | (go_simp; done) | (go_simp; with_reducible rfl))
  try simp only [Act.put, List.setIfInBounds_toArray, List.set_cons_zero, List.set_cons_succ]
  refine takeH (i := 15) (d := some 25) (v := ?v16) rfl rfl (by kernel_rfl) (by kernel_rfl) (by kernel_rfl) (fun _ _ _ h => h) (Or.inl ⟨by rfl, ?hy16⟩) (by assumption) ?rest16
  case hy16 => (intro w9 hSw; (try dsimp only at hSw); first | (go_simp; done) | (go_simp; with_reducible rfl))
  try simp only [Act.put, List.setIfInBounds_toArray, List.set_cons_zero, List.set_cons_succ]
  refine takeH (i := 16) (d := some 26) (v := ?v17) rfl rfl (by kernel_rfl) (by kernel_rfl) (by kernel_rfl) (fun _ _ _ h => h) (Or.inl ⟨by rfl, ?hy17⟩) (by assumption) ?rest17
  case hy17 => (intro w9 hSw; (try dsimp only at hSw); first | (go_simp; done) | (go_simp; with_reducible rfl))
  try simp only [Act.put, List.setIfInBounds_toArray, List.set_cons_zero, List.set_cons_succ]
  refine takeH (i := 17) (d := some 27) (v := ?v18) rfl rfl (by kernel_rfl) (by kernel_rfl) (by kernel_rfl) (fun _ _ _ h => h) (Or.inl ⟨by rfl, ?hy18⟩) (by assumption) ?rest18
  case hy18 => (intro w9 hSw; (try dsimp only at hSw); first | (go_simp; done) | (go_simp; with_reducible rfl))
  try simp only [Act.put, List.setIfInBounds_toArray, List.set_cons_zero, List.set_cons_succ]
  refine takeH (i := 19) (d := some 29) (v := ?v19) rfl rfl (by kernel_rfl) (by kernel_rfl) (by kernel_rfl) (fun _ _ _ h => h) (Or.inl ⟨by rfl, ?hy19⟩) (by assumption) ?rest19
  case hy19 => (intro w9 hSw; (try dsimp only at hSw); first | (go_simp; done) | (go_simp; with_reducible rfl))
  try simp only [Act.put, List.setIfInBounds_toArray, List.set_cons_zero, List.set_cons_succ]
  refine takeH (i := 20) (d := some 30) (v := ?v20) rfl rfl (by kernel_rfl) (by kernel_rfl) (by kernel_rfl) (fun _ _ _ h => h) (Or.inl ⟨by rfl, ?hy20⟩) (by assumption) ?rest20
  case hy20 => (intro w9 hSw; (try dsimp only at hSw); first | (go_simp; done) | (go_simp; with_reducible rfl))
  try simp only [Act.put, List.setIfInBounds_toArray, List.set_cons_zero, List.set_cons_succ]
  refine wpAnyH_ready (rs := [18]) (by kernel_rfl) (by simp) ?_
  refine readyH (d := some 28) rfl rfl (fun K hK => ?_)
  go_simp
  go_at_call 19
  refine (C7.out _).mono ?_
  rintro e wq18 ⟨rfl, k9⟩
  have HS18 := kq3_of (HS12.2.2.2.2.2.2.2.2.2.2.2.2.next k9)
  clear k9
  go_wp2_with fail
  refine hK.out _ _ HS18 (fun hHeld18 => ?_)
  clear hK K
  try simp only [Act.put, List.setIfInBounds_toArray, List.set_cons_zero, List.set_cons_succ]
  refine wpAnyH_ready (rs := [21]) (by kernel_rfl) (by simp) ?_
  refine readyH (d := some 31) rfl rfl (fun K hK => ?_)
  go_simp
  go_at_call 19
  refine (C8.out _).mono ?_
  rintro e wq21 ⟨rfl, k9⟩
  have HS21 := kq3_of (HS18.2.2.2.2.2.2.2.2.2.2.2.2.next k9)
  clear k9
  go_wp2_with fail
  refine hK.out _ _ HS21 (fun hHeld21 => ?_)
  clear hK K
  try simp only [Act.put, List.setIfInBounds_toArray, List.set_cons_zero, List.set_cons_succ]
  refine takeH (i := 22) (d := some 32) (v := ?v23) rfl rfl (by kernel_rfl) (by kernel_rfl) (by kernel_rfl) (fun _ _ _ h => h) (Or.inl ⟨by rfl, ?hy23⟩) (by assumption) ?rest23
  case hy23 => (intro w9 hSw; (try dsimp only at hSw); first | (go_simp; done) | (go_simp; with_reducible rfl))
  try simp only [Act.put, List.setIfInBounds_toArray, List.set_cons_zero, List.set_cons_succ]
  refine takeH (i := 23) (d := some 33) (v := ?v24) rfl rfl (by kernel_rfl) (by kernel_rfl) (by kernel_rfl) (fun _ _ _ h => h) (Or.inl ⟨by rfl, ?hy24⟩) (by assumption) ?rest24
  case hy24 => (intro w9 hSw; (try dsimp only at hSw); first | (go_simp; done) | (go_simp; with_reducible rfl))
  try simp only [Act.put, List.setIfInBounds_toArray, List.set_cons_zero, List.set_cons_succ]
  refine takeH (i := 24) (d := some 34) (v := ?v25) rfl rfl (by kernel_rfl) (by kernel_rfl) (by kernel_rfl) (fun _ _ _ h => h) (Or.inl ⟨by rfl, ?hy25⟩) (by assumption) ?rest25
  case hy25 => (intro w9 hSw; (try dsimp only at hSw); first | (go_simp; done) | (go_simp; with_reducible rfl))
  try simp only [Act.put, List.setIfInBounds_toArray, List.set_cons_zero, List.set_cons_succ]
  refine takeH (i := 25) (d := some 35) (v := ?v26) rfl rfl (by kernel_rfl) (by kernel_rfl) (by kernel_rfl) (fun _ _ _ h => h) (Or.inl ⟨by rfl, ?hy26⟩) (by assumption) ?rest26
  case hy26 => (intro w9 hSw; (try dsimp only at hSw); first | (go_simp; done) | (go_simp; with_reducible rfl))
  try simp only [Act.put, List.setIfInBounds_toArray, List.set_cons_zero, List.set_cons_succ]
  refine takeH (i := 26) (d := some 36) (v := ?v27) rfl rfl (by kernel_rfl) (by kernel_rfl) (by kernel_rfl) (fun _ _ _ h => h) (Or.inl ⟨by rfl, ?hy27⟩) (by assumption) ?rest27
  case hy27 => (intro w9 hSw; (try dsimp only at hSw); first | (go_simp; done) | (go_simp; with_reducible rfl))
  try simp only [Act.put, List.setIfInBounds_toArray, List.set_cons_zero, List.set_cons_succ]
  refine takeH (i := 27) (d := some 37) (v := ?v28) rfl rfl (by kernel_rfl) (by kernel_rfl) (by kernel_rfl) (fun _ _ _ h => h) (Or.inl ⟨by rfl, ?hy28⟩) (by assumption) ?rest28
  case hy28 => (intro w9 hSw; (try dsimp only at hSw); first | (go_simp; done) | (go_simp; with_reducible rfl))
  try simp only [Act.put, List.setIfInBounds_toArray, List.set_cons_zero, List.set_cons_succ]
  refine takeH (i := 29) (d := some 39) (v := ?v29) rfl rfl (by kernel_rfl) (by kernel_rfl) (by kernel_rfl) (fun _ _ _ h => h) (Or.inl ⟨by rfl, ?hy29⟩) (by assumption) ?rest29
  case hy29 => (intro w9 hSw; (try dsimp only at hSw); first | (go_simp; done) | (go_simp; with_reducible rfl))
  try simp only [Act.put, List.setIfInBounds_toArray, List.set_cons_zero, List.set_cons_succ]
  refine takeH (i := 31) (d := some 41) (v := ?v30) rfl rfl (by kernel_rfl) (by kernel_rfl) (by kernel_rfl) (fun _ _ _ h => h) (Or.inl ⟨by rfl, ?hy30⟩) (by assumption) ?rest30
  case hy30 => (intro w9 hSw; (try dsimp only at hSw); first | (go_simp; done) | (go_simp; with_reducible rfl))
  try simp only [Act.put, List.setIfInBounds_toArray, List.set_cons_zero, List.set_cons_succ]
  refine takeH (i := 32) (d := some 42) (v := ?v31) rfl rfl (by kernel_rfl) (by kernel_rfl) (by kernel_rfl) (fun _ _ _ h => h) (Or.inl ⟨by rfl, ?hy31⟩) (by assumption) ?rest31
  case hy31 => (intro w9 hSw; (try dsimp only at hSw); first | (go_simp; done) | (go_simp; with_reducible rfl))
  try simp only [Act.put, List.setIfInBounds_toArray, List.set_cons_zero, List.set_cons_succ]
  refine wpAnyH_ready (rs := [28]) (by kernel_rfl) (by simp) ?_
  refine readyH (d := some 38) rfl rfl (fun K hK => ?_)
  go_simp
  go_at_call 14
  refine (C3.out _).mono ?_
  rintro e wq28 ⟨rfl, k9⟩
  have HS28 := kq3_of (HS21.2.2.2.2.2.2.2.2.2.2.2.2.next k9)
  clear k9
  go_wp2_with fail
  refine hK.out _ _ HS28 (fun hHeld28 => ?_)
  clear hK K
  try simp only [Act.put, List.setIfInBounds_toArray, List.set_cons_zero, List.set_cons_succ]
  refine wpAnyH_ready (rs := [30]) (by kernel_rfl) (by simp) ?_
  refine readyH (d := some 40) rfl rfl (fun K hK => ?_)
  go_simp
  go_at_call 19
  refine (C9.out _).mono ?_
  rintro e wq30 ⟨rfl, k9⟩
  have HS30 := kq3_of (HS28.2.2.2.2.2.2.2.2.2.2.2.2.next k9)
  clear k9
  go_wp2_with fail
  refine hK.out _ _ HS30 (fun hHeld30 => ?_)
  clear hK K
  try simp only [Act.put, List.setIfInBounds_toArray, List.set_cons_zero, List.set_cons_succ]
  refine wpAnyH_ready (rs := [33]) (by kernel_rfl) (by simp) ?_
  refine readyH (d := some 43) rfl rfl (fun K hK => ?_)
  go_simp
  go_at_call 19
  refine (C8.out _).mono ?_
  rintro e wq33 ⟨rfl, k9⟩
  have HS33 := kq3_of (HS30.2.2.2.2.2.2.2.2.2.2.2.2.next k9)
  clear k9
  go_wp2_with fail
  refine hK.out _ _ HS33 (fun hHeld33 => ?_)
  clear hK K
  try simp only [Act.put, List.setIfInBounds_toArray, List.set_cons_zero, List.set_cons_succ]
  refine takeH (i := 34) (d := some 44) (v := ?v35) rfl rfl (by kernel_rfl) (by kernel_rfl) (by kernel_rfl) (fun _ _ _ h => h) (Or.inl ⟨by rfl, ?hy35⟩) (by assumption) ?rest35
  case hy35 => (intro w9 hSw; (try dsimp only at hSw); first | (go_simp; done) | (go_simp; with_reducible rfl))
  try simp only [Act.put, List.setIfInBounds_toArray, List.set_cons_zero, List.set_cons_succ]
  refine takeH (i := 35) (d := some 45) (v := ?v36) rfl rfl (by kernel_rfl) (by kernel_rfl) (by kernel_rfl) (fun _ _ _ h => h) (Or.inl ⟨by rfl, ?hy36⟩) (by assumption) ?rest36
  case hy36 => (intro w9 hSw; (try dsimp only at hSw); first | (go_simp; done) | (go_simp; with_reducible rfl))
  try simp only [Act.put, List.setIfInBounds_toArray, List.set_cons_zero, List.set_cons_succ]
  refine takeH (i := 36) (d := some 46) (v := ?v37) rfl rfl (by kernel_rfl) (by kernel_rfl) (by kernel_rfl) (fun _ _ _ h => h) (Or.inl ⟨by rfl, ?hy37⟩) (by assumption) ?rest37
  case hy37 => (intro w9 hSw; (try dsimp only at hSw); first | (go_simp; done) | (go_simp; with_reducible rfl))
  try simp only [Act.put, List.setIfInBounds_toArray, List.set_cons_zero, List.set_cons_succ]
  refine wpAnyH_ready (rs := [37]) (by kernel_rfl) (by simp) ?_
  refine readyH (d := some 47) rfl rfl (fun K hK => ?_)
  go_simp
  go_at_call 19
  refine (C10.out _).mono ?_
  rintro e wq37 ⟨rfl, k9⟩
  have HS37 := kq3_of (HS33.2.2.2.2.2.2.2.2.2.2.2.2.next k9)
  clear k9
  go_wp2_with fail
  refine hK.out _ _ HS37 (fun hHeld37 => ?_)
  clear hK K
  try simp only [Act.put, List.setIfInBounds_toArray, List.set_cons_zero, List.set_cons_succ]
  refine takeH (i := 38) (d := some 48) (v := ?v39) rfl rfl (by kernel_rfl) (by kernel_rfl) (by kernel_rfl) (fun _ _ _ h => h) (Or.inl ⟨by rfl, ?hy39⟩) (by assumption) ?rest39
  case hy39 => (intro w9 hSw; (try dsimp only at hSw); first | (go_simp; done) | (go_simp; with_reducible rfl))
  try simp only [Act.put, List.setIfInBounds_toArray, List.set_cons_zero, List.set_cons_succ]
  refine takeH (i := 39) (d := some 49) (v := ?v40) rfl rfl (by kernel_rfl) (by kernel_rfl) (by kernel_rfl) (fun _ _ _ h => h) (Or.inl ⟨by rfl, ?hy40⟩) (by assumption) ?rest40
  case hy40 => (intro w9 hSw; (try dsimp only at hSw); first | (go_simp; done) | (go_simp; with_reducible rfl))
  try simp only [Act.put, List.setIfInBounds_toArray, List.set_cons_zero, List.set_cons_succ]
  refine takeH (i := 40) (d := some 50) (v := ?v41) rfl rfl (by kernel_rfl) (by kernel_rfl) (by kernel_rfl) (fun _ _ _ h => h) (Or.inl ⟨by rfl, ?hy41⟩) (by assumption) ?rest41
  case hy41 => (intro w9 hSw; (try dsimp only at hSw); first | (go_simp; done) | (go_simp; with_reducible rfl))
  try simp only [Act.put, List.setIfInBounds_toArray, List.set_cons_zero, List.set_cons_succ]
  refine takeH (i := 41) (d := some 51) (v := ?v42) rfl rfl (by kernel_rfl) (by kernel_rfl) (by kernel_rfl) (fun _ _ _ h => h) (Or.inl ⟨by rfl, ?hy42⟩) (by assumption) ?rest42
  case hy42 => (intro w9 hSw; (try dsimp only at hSw); first | (go_simp; done) | (go_simp; with_reducible rfl))
  try simp only [Act.put, List.setIfInBounds_toArray, List.set_cons_zero, List.set_cons_succ]
  refine takeH (i := 42) (d := some 52) (v := ?v43) rfl rfl (by kernel_rfl) (by kernel_rfl) (by kernel_rfl) (fun _ _ _ h => h) (Or.inl ⟨by rfl, ?hy43⟩) (by assumption) ?rest43
  case hy43 => (intro w9 hSw; (try dsimp only at hSw); first | (go_simp; done) | (go_simp; with_reducible rfl))
  try simp only [Act.put, List.setIfInBounds_toArray, List.set_cons_zero, List.set_cons_succ]
  refine takeH (i := 43) (d := some 53) (v := ?v44) rfl rfl (by kernel_rfl) (by kernel_rfl) (by kernel_rfl) (fun _ _ _ h => h) (Or.inl ⟨by rfl, ?hy44⟩) (by assumption) ?rest44
  case hy44 => (intro w9 hSw; (try dsimp only at hSw); first | (go_simp; done) | (go_simp; with_reducible rfl))
  try simp only [Act.put, List.setIfInBounds_toArray, List.set_cons_zero, List.set_cons_succ]
  refine takeH (i := 45) (d := some 55) (v := ?v45) rfl rfl (by kernel_rfl) (by kernel_rfl) (by kernel_rfl) (fun _ _ _ h => h) (Or.inl ⟨by rfl, ?hy45⟩) (by assumption) ?rest45
  case hy45 => (intro w9 hSw; (try dsimp only at hSw); first | (go_simp; done) | (go_simp; with_reducible rfl))
  try simp only [Act.put, List.setIfInBounds_toArray, List.set_cons_zero, List.set_cons_succ]
  refine takeH (i := 47) (d := some 57) (v := ?v46) rfl rfl (by kernel_rfl) (by kernel_rfl) (by kernel_rfl) (fun _ _ _ h => h) (Or.inl ⟨by rfl, ?hy46⟩) (by assumption) ?rest46
  case hy46 => (intro w9 hSw; (try dsimp only at hSw); first | (go_simp; done) | (go_simp; with_reducible rfl))
  try simp only [Act.put, List.setIfInBounds_toArray, List.set_cons_zero, List.set_cons_succ]
  refine takeH (i := 48) (d := some 58) (v := ?v47) rfl rfl (by kernel_rfl) (by kernel_rfl) (by kernel_rfl) (fun _ _ _ h => h) (Or.inl ⟨by rfl, ?hy47⟩) (by assumption) ?rest47
  case hy47 => (intro w9 hSw; (try dsimp only at hSw); first | (go_simp; done) | (go_simp; with_reducible rfl))
  try simp only [Act.put, List.setIfInBounds_toArray, List.set_cons_zero, List.set_cons_succ]
  refine wpAnyH_ready (rs := [44]) (by kernel_rfl) (by simp) ?_
  refine readyH (d := some 54) rfl rfl (fun K hK => ?_)
  go_simp
  go_at_call 16
  refine (C11.out _).mono ?_
  rintro e wq44 ⟨rfl, k9⟩
  have HS44 := kq3_of (HS37.2.2.2.2.2.2.2.2.2.2.2.2.next k9)
  clear k9
  go_wp2_with fail
  refine hK.out _ _ HS44 (fun hHeld44 => ?_)
  clear hK K
  try simp only [Act.put, List.setIfInBounds_toArray, List.set_cons_zero, List.set_cons_succ]
  refine wpAnyH_ready (rs := [46]) (by kernel_rfl) (by simp) ?_
  refine readyH (d := some 56) rfl rfl (fun K hK => ?_)
  go_simp
  go_at_call 19
  refine (C12.out _).mono ?_
  rintro e wq46 ⟨rfl, k9⟩
  have HS46 := kq3_of (HS44.2.2.2.2.2.2.2.2.2.2.2.2.next k9)
  clear k9
  go_wp2_with fail
  refine hK.out _ _ HS46 (fun hHeld46 => ?_)
  clear hK K
  try simp only [Act.put, List.setIfInBounds_toArray, List.set_cons_zero, List.set_cons_succ]
  refine wpAnyH_ready (rs := [49]) (by kernel_rfl) (by simp) ?_
  refine readyH (d := some 59) rfl rfl (fun K hK => ?_)
  go_simp
  go_at_call 19
  refine (C8.out _).mono ?_
  rintro e wq49 ⟨rfl, k9⟩
  have HS49 := kq3_of (HS46.2.2.2.2.2.2.2.2.2.2.2.2.next k9)
  clear k9
  go_wp2_with fail
  refine hK.out _ _ HS49 (fun hHeld49 => ?_)
  clear hK K
  try simp only [Act.put, List.setIfInBounds_toArray, List.set_cons_zero, List.set_cons_succ]
  refine takeH (i := 50) (d := some 60) (v := ?v51) rfl rfl (by kernel_rfl) (by kernel_rfl) (by kernel_rfl) (fun _ _ _ h => h) (Or.inl ⟨by rfl, ?hy51⟩) (by assumption) ?rest51
  case hy51 => (intro w9 hSw; (try dsimp only at hSw); first | (go_simp; done) | (go_simp; with_reducible rfl))
  try simp only [Act.put, List.setIfInBounds_toArray, List.set_cons_zero, List.set_cons_succ]
  refine takeH (i := 51) (d := some 61) (v := undef) rfl rfl (by kernel_rfl) (by kernel_rfl) (by kernel_rfl) (fun _ _ _ h => h) (Or.inr ⟨by rfl, rfl⟩) (by assumption) ?_
  try simp only [Act.put, List.setIfInBounds_toArray, List.set_cons_zero, List.set_cons_succ]
  refine takeH (i := 52) (d := some 62) (v := undef) rfl rfl (by kernel_rfl) (by kernel_rfl) (by kernel_rfl) (fun _ _ _ h => h) (Or.inr ⟨by rfl, rfl⟩) (by assumption) ?_
  try simp only [Act.put, List.setIfInBounds_toArray, List.set_cons_zero, List.set_cons_succ]
  refine takeH (i := 53) (d := some 63) (v := undef) rfl rfl (by kernel_rfl) (by kernel_rfl) (by kernel_rfl) (fun _ _ _ h => h) (Or.inr ⟨by rfl, rfl⟩) (by assumption) ?_
  try simp only [Act.put, List.setIfInBounds_toArray, List.set_cons_zero, List.set_cons_succ]
  refine takeH (i := 54) (d := some 64) (v := ?v55) rfl rfl (by kernel_rfl) (by kernel_rfl) (by kernel_rfl) (fun _ _ _ h => h) (Or.inl ⟨by rfl, ?hy55⟩) (by assumption) ?rest55
  case hy55 => (intro w9 hSw; (try dsimp only at hSw); first | (go_simp; done) | (go_simp; with_reducible rfl))
  try simp only [Act.put, List.setIfInBounds_toArray, List.set_cons_zero, List.set_cons_succ]
  refine takeH (i := 55) (d := some 65) (v := ?v56) rfl rfl (by kernel_rfl) (by kernel_rfl) (by kernel_rfl) (fun _ _ _ h => h) (Or.inl ⟨by rfl, ?hy56⟩) (by assumption) ?rest56
  case hy56 => (intro w9 hSw; (try dsimp only at hSw); first | (go_simp; done) | (go_simp; with_reducible rfl))
  try simp only [Act.put, List.setIfInBounds_toArray, List.set_cons_zero, List.set_cons_succ]
  refine takeH (i := 56) (d := some 66) (v := ?v57) rfl rfl (by kernel_rfl) (by kernel_rfl) (by kernel_rfl) (fun _ _ _ h => h) (Or.inl ⟨by rfl, ?hy57⟩) (by assumption) ?rest57
  case hy57 => (intro w9 hSw; (try dsimp only at hSw); first | (go_simp; done) | (go_simp; with_reducible rfl))
  try simp only [Act.put, List.setIfInBounds_toArray, List.set_cons_zero, List.set_cons_succ]
  refine takeH (i := 57) (d := some 67) (v := ?v58) rfl rfl (by kernel_rfl) (by kernel_rfl) (by kernel_rfl) (fun _ _ _ h => h) (Or.inl ⟨by rfl, ?hy58⟩) (by assumption) ?rest58
  case hy58 => (intro w9 hSw; (try dsimp only at hSw); first | (go_simp; done) | (go_simp; with_reducible rfl))
  try simp only [Act.put, List.setIfInBounds_toArray, List.set_cons_zero, List.set_cons_succ]
  refine takeH (i := 58) (d := some 68) (v := ?v59) rfl rfl (by kernel_rfl) (by kernel_rfl) (by kernel_rfl) (fun _ _ _ h => h) (Or.inl ⟨by rfl, ?hy59⟩) (by assumption) ?rest59
  case hy59 => (intro w9 hSw; (try dsimp only at hSw); first | (go_simp; done) | (go_simp; with_reducible rfl))
  try simp only [Act.put, List.setIfInBounds_toArray, List.set_cons_zero, List.set_cons_succ]
  refine takeH (i := 60) (d := some 70) (v := ?v60) rfl rfl (by kernel_rfl) (by kernel_rfl) (by kernel_rfl) (fun _ _ _ h => h) (Or.inl ⟨by rfl, ?hy60⟩) (by assumption) ?rest60
  case hy60 => (intro w9 hSw; (try dsimp only at hSw); first | (go_simp; done) | (go_simp; with_reducible rfl))
  try simp only [Act.put, List.setIfInBounds_toArray, List.set_cons_zero, List.set_cons_succ]
  refine wpAnyH_ready (rs := [59]) (by kernel_rfl) (by simp) ?_
  refine readyH (d := some 69) rfl rfl (fun K hK => ?_)
  go_simp
  go_at_call 22
  refine (C13.out _).mono ?_
  rintro e wq59 ⟨rfl, k9⟩
  have HS59 := kq3_of (HS49.2.2.2.2.2.2.2.2.2.2.2.2.next k9)
  clear k9
  go_wp2_with fail
  refine hK.out _ _ HS59 (fun hHeld59 => ?_)
  clear hK K
  try simp only [Act.put, List.setIfInBounds_toArray, List.set_cons_zero, List.set_cons_succ]
  refine wpAnyH_ready (rs := [61]) (by kernel_rfl) (by simp) ?_
  refine readyH (d := some 71) rfl rfl (fun K hK => ?_)
  go_simp
  go_at_call 22
  refine (C14.out _).mono ?_
  rintro e wq61 ⟨rfl, k9⟩
  have HS61 := kq3_of (HS59.2.2.2.2.2.2.2.2.2.2.2.2.next k9)
  clear k9
  go_wp2_with fail
  refine hK.out _ _ HS61 (fun hHeld61 => ?_)
  clear hK K
  try simp only [Act.put, List.setIfInBounds_toArray, List.set_cons_zero, List.set_cons_succ]
  refine takeH (i := 62) (d := some 72) (v := ?v63) rfl rfl (by kernel_rfl) (by kernel_rfl) (by kernel_rfl) (fun _ _ _ h => h) (Or.inl ⟨by rfl, ?hy63⟩) (by assumption) ?rest63
  case hy63 => (intro w9 hSw; (try dsimp only at hSw); first | (go_simp; done) | (go_simp; with_reducible rfl))
  try simp only [Act.put, List.setIfInBounds_toArray, List.set_cons_zero, List.set_cons_succ]
  refine takeH (i := 63) (d := some 73) (v := ?v64) rfl rfl (by kernel_rfl) (by kernel_rfl) (by kernel_rfl) (fun _ _ _ h => h) (Or.inl ⟨by rfl, ?hy64⟩) (by assumption) ?rest64
  case hy64 => (intro w9 hSw; (try dsimp only at hSw); first | (go_simp; done) | (go_simp; with_reducible rfl))
  try simp only [Act.put, List.setIfInBounds_toArray, List.set_cons_zero, List.set_cons_succ]
  refine takeH (i := 64) (d := some 74) (v := ?v65) rfl rfl (by kernel_rfl) (by kernel_rfl) (by kernel_rfl) (fun _ _ _ h => h) (Or.inl ⟨by rfl, ?hy65⟩) (by assumption) ?rest65
  case hy65 => (intro w9 hSw; (try dsimp only at hSw); first | (go_simp; done) | (go_simp; with_reducible rfl))
  try simp only [Act.put, List.setIfInBounds_toArray, List.set_cons_zero, List.set_cons_succ]
  refine takeH (i := 65) (d := some 75) (v := ?v66) rfl rfl (by kernel_rfl) (by kernel_rfl) (by kernel_rfl) (fun _ _ _ h => h) (Or.inl ⟨by rfl, ?hy66⟩) (by assumption) ?rest66
  case hy66 => (intro w9 hSw; (try dsimp only at hSw); first | (go_simp; done) | (go_simp; with_reducible rfl))
  try simp only [Act.put, List.setIfInBounds_toArray, List.set_cons_zero, List.set_cons_succ]
  refine takeH (i := 66) (d := some 76) (v := ?v67) rfl rfl (by kernel_rfl) (by kernel_rfl) (by kernel_rfl) (fun _ _ _ h => h) (Or.inl ⟨by rfl, ?hy67⟩) (by assumption) ?rest67
  case hy67 => (intro w9 hSw; (try dsimp only at hSw); first | (go_simp; done) | (go_simp; with_reducible rfl))
  try simp only [Act.put, List.setIfInBounds_toArray, List.set_cons_zero, List.set_cons_succ]
  refine takeH (i := 69) (d := some 79) (v := ?v68) rfl rfl (by kernel_rfl) (by kernel_rfl) (by kernel_rfl) (fun _ _ _ h => h) (Or.inl ⟨by rfl, ?hy68⟩) (by assumption) ?rest68
  case hy68 => (intro w9 hSw; (try dsimp only at hSw); first | (go_simp; done) | (go_simp; with_reducible rfl))
  try simp only [Act.put, List.setIfInBounds_toArray, List.set_cons_zero, List.set_cons_succ]
  refine wpAnyH_ready (rs := [67]) (by kernel_rfl) (by simp) ?_
  refine readyH (d := some 77) rfl rfl (fun K hK => ?_)
  go_simp
  go_at_call 18
  refine (C15.out _).mono ?_
  rintro e wq67 ⟨rfl, k9⟩
  have HS67 := kq3_of (HS61.2.2.2.2.2.2.2.2.2.2.2.2.next k9)
  clear k9
  go_wp2_with fail
  refine hK.out _ _ HS67 (fun hHeld67 => ?_)
  clear hK K
  try simp only [Act.put, List.setIfInBounds_toArray, List.set_cons_zero, List.set_cons_succ]
  refine wpAnyH_ready (rs := [68]) (by kernel_rfl) (by simp) ?_
  refine readyH (d := some 78) rfl rfl (fun K hK => ?_)
  go_simp
  go_at_call 8
  refine (C16.out _).mono ?_
  rintro e wq68 ⟨rfl, k9⟩
  have HS68 := kq3_of (HS67.2.2.2.2.2.2.2.2.2.2.2.2.next k9)
  clear k9
  go_wp2_with fail
  refine hK.out _ _ HS68 (fun hHeld68 => ?_)
  clear hK K
  try simp only [Act.put, List.setIfInBounds_toArray, List.set_cons_zero, List.set_cons_succ]
  refine takeH (i := 70) (d := some 80) (v := ?v71) rfl rfl (by kernel_rfl) (by kernel_rfl) (by kernel_rfl) (fun _ _ _ h => h) (Or.inl ⟨by rfl, ?hy71⟩) (by assumption) ?rest71
  case hy71 => (intro w9 hSw; (try dsimp only at hSw); first | (go_simp; done) | (go_simp; with_reducible rfl))
  try simp only [Act.put, List.setIfInBounds_toArray, List.set_cons_zero, List.set_cons_succ]
  refine takeH (i := 71) (d := some 81) (v := ?v72) rfl rfl (by kernel_rfl) (by kernel_rfl) (by kernel_rfl) (fun _ _ _ h => h) (Or.inl ⟨by rfl, ?hy72⟩) (by assumption) ?rest72
  case hy72 => (intro w9 hSw; (try dsimp only at hSw); first | (go_simp; done) | (go_simp; with_reducible rfl))
  try simp only [Act.put, List.setIfInBounds_toArray, List.set_cons_zero, List.set_cons_succ]
  refine takeH (i := 72) (d := some 82) (v := ?v73) rfl rfl (by kernel_rfl) (by kernel_rfl) (by kernel_rfl) (fun _ _ _ h => h) (Or.inl ⟨by rfl, ?hy73⟩) (by assumption) ?rest73
  case hy73 => (intro w9 hSw; (try dsimp only at hSw); first | (go_simp; done) | (go_simp; with_reducible rfl))
  try simp only [Act.put, List.setIfInBounds_toArray, List.set_cons_zero, List.set_cons_succ]
  refine wpAnyH_ready (rs := [73]) (by kernel_rfl) (by simp) ?_
  refine readyH (d := some 83) rfl rfl (fun K hK => ?_)
  go_simp
  go_at_call 7
  refine (known_any _).mono ?_
  rintro e wq73 ⟨rfl, k9⟩
  have HS73 := kq3_of (HS68.2.2.2.2.2.2.2.2.2.2.2.2.next k9)
  clear k9
  go_wp2_with fail
  refine hK.out _ _ HS73 (fun hHeld73 => ?_)
  clear hK K
  try simp only [Act.put, List.setIfInBounds_toArray, List.set_cons_zero, List.set_cons_succ]
  refine takeH (i := 74) (d := some 84) (v := ?v75) rfl rfl (by kernel_rfl) (by kernel_rfl) (by kernel_rfl) (fun _ _ _ h => h) (Or.inl ⟨by rfl, ?hy75⟩) (by assumption) ?rest75
  case hy75 => (intro w9 hSw; (try dsimp only at hSw); first | (go_simp; done) | (go_simp; with_reducible rfl))
  try simp only [Act.put, List.setIfInBounds_toArray, List.set_cons_zero, List.set_cons_succ]
  refine takeH (i := 75) (d := some 6) (v := ?v76) rfl rfl (by kernel_rfl) (by kernel_rfl) (by kernel_rfl) (fun _ _ _ h => h) (Or.inl ⟨by rfl, ?hy76⟩) (by assumption) ?rest76
  case hy76 => (intro w9 hSw; (try dsimp only at hSw); first | (go_simp; done) | (go_simp; with_reducible rfl))
  try simp only [Act.put, List.setIfInBounds_toArray, List.set_cons_zero, List.set_cons_succ]
  refine wpAnyH_done (by kernel_rfl) ?_ _
  go_wp2
  go_ret
  exact ⟨rfl, HS73.2.2.2.2.2.2.2.2.2.2.2.2.w⟩
end Go.Proofs.Ytdbeohfaaonbjaa.charsetLaws.f
