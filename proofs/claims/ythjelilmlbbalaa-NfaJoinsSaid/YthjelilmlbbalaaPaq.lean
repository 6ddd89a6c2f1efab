/-
  The reference's Pairs and Match (layer 17): what a tree matches.
  Conditions: as each theorem says.
-/
import Derived.Test.YthjelilmlbbalaaPap
import Derived.Test.YthjelilmlbbalaaPan
import Derived.Test.YthjelilmlbbalaaPaf
import Derived.Deep.RegionWith
import Derived.Deep.RegionHeld3
namespace Go.Proofs.Ythjelilmlbbalaa.Av
open Go.RowKit Go.Proofs.Ythjelilmlbbalaa.Vm Go.Proofs.Ythjelilmlbbalaa.Vo Go.Proofs.Ythjelilmlbbalaa.Bw Go.Proofs.Ythjelilmlbbalaa.Na Go.Proofs.Ythjelilmlbbalaa.Ko Go.Proofs.Ythjelilmlbbalaa.Tm Go.Proofs.Ythjelilmlbbalaa.Ts Go.Proofs.Ythjelilmlbbalaa.Ta Go.Proofs.Ythjelilmlbbalaa.Tb Go.Proofs.Ythjelilmlbbalaa.Te Go.Proofs.Ythjelilmlbbalaa.Tf Go.Proofs.Ythjelilmlbbalaa.Rm Go.Proofs.Ythjelilmlbbalaa.Rs Go.Proofs.Ythjelilmlbbalaa.Rv Go.Proofs.Ythjelilmlbbalaa.Ra Go.Proofs.Ythjelilmlbbalaa.Re Go.Proofs.Ythjelilmlbbalaa.Rf Go.Proofs.Ythjelilmlbbalaa.Rk Go.Proofs.Ythjelilmlbbalaa.Rn Go.Proofs.Ythjelilmlbbalaa.Ro Go.Proofs.Ythjelilmlbbalaa.Ed Go.Proofs.Ythjelilmlbbalaa.Am Go.Proofs.Ythjelilmlbbalaa.Ap Go.Proofs.Ythjelilmlbbalaa.Ag Go.Proofs.Ythjelilmlbbalaa.Ar Go.Proofs.Ythjelilmlbbalaa.At Go.Proofs.Ythjelilmlbbalaa.Au

section
variable {P : Program} {ops : Array Oper} {Q : Exit → Act → World → Prop} {md : Region.Mode} {S : World → Prop}
/-- One operation is taken first; the slot it fills is named. -/
theorem takeH {i : Nat} {oi : Oper} {d : Option Tmp} {v : Value} {fuel : Nat} {listed : Array Bool} {a : Act} {w : World} (hi : ops[i]? = some oi) (hd : oi.dst = d)
    (hs : Region.noSelect ops = true) (hf : Region.free md ops listed i = true) (hr : (Region.ready md ops listed).contains i = true)
    (hQ : ∀ c a w, Q (.panic c) (a.put d v) w → Q (.panic c) a w) (hy : YieldsIf P ops S oi v a) (hS : S w)
    (h : wpAnyH P md ops Q S fuel (listed.setIfInBounds i true) (a.put d v) w) : wpAnyH P md ops Q S (fuel + 1) listed a w := by
  subst hd
  exact wpAnyH_take hi hs hf hr hQ hy hS h
/-- One operation alone comes up next. -/
theorem readyH {i : Nat} {o : Oper} {d : Option Tmp} {fuel : Nat} {listed : Array Bool} {a : Act} {w : World} (ho : ops[i]? = some o) (hd : o.dst = d)
    (h : ∀ K' : Act → World → Prop, Shut (∀ a w, S w → (S w → wpAnyH P md ops Q S fuel (listed.setIfInBounds i true) a w) → K' a w) → if Region.wanted o (yielded ops a.tmps) = true then Oper.wp P o a w K' Q else K' (a.put d undef) w) :
    AllReadyH P md ops Q S fuel listed a w [i] := by
  subst hd
  exact AllReadyH.cons ho h AllReadyH.nil
end
theorem nb_len (s : ByteArray) : (nb s.data.toList).length = s.size := by unfold nb; rw [List.length_map, Array.length_toList]; rfl
theorem okTs_mem : ∀ {l : List T} {u : T}, okTs l → u ∈ l → okT u
  | [], _, _, hu => absurd hu (by simp)
  | t :: l, u, h, hu => by
    unfold okTs at h
    rcases List.mem_cons.1 hu with rfl | hu
    · exact h.1
    · exact okTs_mem h.2 hu
theorem okT_kid {t u : T} (h : okT t) (hu : u ∈ kidsT t) : okT u := by
  cases t with
  | set a => exact absurd hu (by simp [kidsT])
  | emp => exact absurd hu (by simp [kidsT])
  | cat l => unfold okT at h; exact okTs_mem h.2 hu
  | alt l => unfold okT at h; exact okTs_mem h.2 hu
  | star t => unfold okT at h; obtain rfl : u = t := by simpa [kidsT] using hu
              exact h
  | plus t => unfold okT at h; obtain rfl : u = t := by simpa [kidsT] using hu
              exact h
  | opt t => unfold okT at h; obtain rfl : u = t := by simpa [kidsT] using hu
             exact h
  | rep lo hi t => unfold okT at h; obtain rfl : u = t := by simpa [kidsT] using hu
                   exact h.2.2
/-- A set's table, the first k rows. -/
def setTo (s : List Nat) (a : List Nat) (k : Nat) : Gd := fun x y => decide (x < k) && setG s a x y
theorem setTo_next {s a : List Nat} {k : Nat} (hk : k < s.length) : ∀ x y, upd (setTo s a k) k (k + 1) (has a (s.getD k 0)) x y = setTo s a (k + 1) x y := fun x y => by
  unfold upd setTo setG
  by_cases hx : x = k
  · subst hx
    rw [if_pos rfl]
    by_cases hy : y = x + 1
    · subst hy; simp [hk]
    · rw [if_neg hy]; simp [hy]
  · rw [if_neg hx]
    by_cases h : x < k
    · simp [h, show x < k + 1 by omega]
    · simp [h, show ¬ x < k + 1 by omega]
theorem setTo_all {s a : List Nat} : ∀ x y, setTo s a s.length x y = setG s a x y := fun x y => by
  unfold setTo setG
  by_cases h : x < s.length <;> simp [h]
theorem pairsC_step (s : List Nat) {ts : List T} {j : Nat} {u : T} (h : ts[j]? = some u) (G : Gd) : pairsC s G (ts.drop j) = pairsC s (thn G (pairs s u) (s.length + 1)) (ts.drop (j + 1)) := by
  rw [List.drop_eq_getElem_cons (List.getElem?_eq_some_iff.1 h).1, (List.getElem?_eq_some_iff.1 h).2, pairsC]
theorem pairsA_step (s : List Nat) {ts : List T} {j : Nat} {u : T} (h : ts[j]? = some u) (G : Gd) : pairsA s G (ts.drop j) = pairsA s (orG G (pairs s u)) (ts.drop (j + 1)) := by
  rw [List.drop_eq_getElem_cons (List.getElem?_eq_some_iff.1 h).1, (List.getElem?_eq_some_iff.1 h).2, pairsA]
theorem nb_get {s : ByteArray} {k : Nat} (h : k < s.size) : (nb s.data.toList).getD k 0 = (s[k]'h).toNat := by
  have h1 : s.data.toList[k]? = some (s[k]'h) := by
    rw [Array.getElem?_toList]
    exact Array.getElem?_eq_getElem h
  unfold nb
  rw [List.getD_eq_getElem?_getD, List.getElem?_map, h1]
  rfl

set_option maxHeartbeats 8000000 in
set_option maxRecDepth 100000 in
theorem rPairs_all {A : Option Addr} {cap : Nat} {l : List Nd} (hl : l.length ≤ 1000000) {s : ByteArray} (hs : s.size ≤ 50000) : ∀ (m : Nat) (t : T), (enc t).length ≤ m → okT t → ∀ (p : Nat) (w : World), nds w A l → tat l p t →
    Calls Try.prog 59 #[.slice A l.length cap, .int .i64 (p : Int), .string s] w fun e w' => ∃ v, e = .returned v ∧ grd w' 4 w.heap.size v (s.size + 1) (pairs (nb s.data.toList) t) ∧ Below w.heap.size w w' := by
  intro m
  induction m with
  | zero => intro t hm; exact absurd hm (by have := enc_pos t; omega)
  | succ m ih =>
  intro t hm hok p w h ht
  have H := Lib.hid h
  have HOK := Lib.hid hok
  have hle := ht.le
  have hkl : (kidsT t).length ≤ 1000000 := by
    have h1 := encs_le (kidsT t)
    have h2 := congrArg List.length (enc_hd t)
    rw [List.length_cons] at h2
    omega
  have HKB := Lib.hid hkl
  have HK := Lib.hid (rKids_any (cap := cap) hl ht.node (hd_n t) hkl H)
  have HKL : Hid ((kidsM l (kidsT t).length ((p : Int) + 1)).length = (kidsT t).length) := Lib.hid (kidsM_length _ _ _)
  obtain ⟨n, hn⟩ : ∃ n, n = s.size + 1 := ⟨_, rfl⟩
  obtain ⟨S, hS⟩ : ∃ S, S = nb s.data.toList := ⟨_, rfl⟩
  have HSL : Hid (S.length = s.size) := Lib.hid (by rw [hS, nb_len])
  have HSS := Lib.hid hS
  have HKid : Hid (∀ (j : Nat) u, (kidsT t)[j]? = some u → ∃ q : Nat, (kidsM l (kidsT t).length ((p : Int) + 1))[j]? = some (q : Int) ∧ (∀ w, nds w A l → Calls Try.prog 59 #[.slice A l.length cap, .int .i64 (q : Int), .string s] w fun e w' => ∃ v, e = .returned v ∧ grd w' 4 w.heap.size v n (pairs S u) ∧ Below w.heap.size w w')) := Lib.hid (fun j u hu => by
    obtain ⟨q, hq, hqt⟩ := ht.kid hu
    have hmem := List.mem_of_getElem? hu
    exact ⟨q, hq, fun w hw => by rw [hn, hS]; exact ih u (by have := kid_less hmem; omega) (okT_kid hok hmem) q w hw hqt⟩)
  obtain ⟨b, off, rfl, hb, hp⟩ := h _ _ ht.node
  have HC0 := Lib.hid hp.c0
  have HC6 := Lib.hid hp.c6
  have HC7 := Lib.hid hp.c7
  have HCS := Lib.hid hp.cs
  have HBB := Lib.hid hb
  have hpN : (p : Int) < (l.length : Int) := by have := enc_pos t; omega
  have hp0 : (0 : Int) ≤ (p : Int) := by omega
  have h0 : 0 < n := by omega
  have hn1 : n ≤ 100000 := by omega
  have hwr : wrap64 ((s.size : Int) + 1) = (n : Int) := by rw [wrap64_in (by omega) (by omega)]; omega
  have HGR : Hid (∀ x : World, Calls Try.prog 70 #[.int .i64 (n : Int)] x fun e w' => ∃ v, e = .returned v ∧ grd w' 4 x.heap.size v n noG ∧ Below x.heap.size x w') := Lib.hid (fun x => grid_any h0 hn1 x)
  have HSA : Hid (∀ x : World, Calls Try.prog 71 #[.int .i64 (n : Int)] x fun e w' => ∃ v, e = .returned v ∧ grd w' 4 x.heap.size v n sameG ∧ Below x.heap.size x w') := Lib.hid (fun x => same_any h0 hn1 x)
  have HTH : Hid (∀ (x : World) g1 b1 c1 F g2 b2 c2 G, grdx x 4 g1 b1 n F → grdx x 4 g2 b2 n G → Calls Try.prog 72 #[.slice (some ⟨g1, 0, none⟩) n c1, .slice (some ⟨g2, 0, none⟩) n c2] x fun e w' => ∃ v, e = .returned v ∧ grd w' 4 x.heap.size v n (thn F G n) ∧ Below x.heap.size x w') := Lib.hid (fun x g1 b1 c1 F g2 b2 c2 G h1 h2 => then_any h0 hn1 (Lib.hid h1) (Lib.hid h2))
  have HEI : Hid (∀ (x : World) g1 b1 c1 F g2 b2 c2 G, grdx x 4 g1 b1 n F → grdx x 4 g2 b2 n G → Calls Try.prog 73 #[.slice (some ⟨g1, 0, none⟩) n c1, .slice (some ⟨g2, 0, none⟩) n c2] x fun e w' => ∃ v, e = .returned v ∧ grd w' 4 x.heap.size v n (orG F G) ∧ Below x.heap.size x w') := Lib.hid (fun x g1 b1 c1 F g2 b2 c2 G h1 h2 => either_any h0 hn1 (Lib.hid h1) (Lib.hid h2))
  have HTI : Hid (∀ (x : World) g1 b1 c1 F (lo : Nat) (hi : Int), lo ≤ 1000 → -1 ≤ hi → hi ≤ 1000 → grdx x 4 g1 b1 n F → Calls Try.prog 74 #[.slice (some ⟨g1, 0, none⟩) n c1, .int .i64 (lo : Int), .int .i64 hi] x fun e w' => ∃ v, e = .returned v ∧ grd w' 4 x.heap.size v n (timesG n F lo hi) ∧ Below x.heap.size x w') := Lib.hid (fun x g1 b1 c1 F lo hi h1 h2 h3 h4 => times_any h0 hn1 h1 h2 h3 (Lib.hid h4))
  rw [← hn, ← hS]
  have HNN := Lib.hid hn
  have HS5 := Lib.hid hs
  clear h ht hle hkl hp hb ih hm hok hn hS h0 hn1 hs
  obtain ⟨N, hN⟩ : ∃ N, N = l.length := ⟨_, rfl⟩
  rw [← hN] at HK HKid hpN hl
  rw [← hN]
  clear hN
  cases t with
  | set a =>
    dsimp only [hd, kidsT] at HC0 HC6 HC7 HCS HKL HK HKid HKB
    have ha : isSet a := by have := HOK.out; unfold okT at this; exact this.1
    obtain ⟨x0, x1, x2, x3, rfl⟩ := four_of ha
    have HX0 := Lib.hid (HCS.out 0 x0 rfl)
    have HX1 := Lib.hid (HCS.out 1 x1 rfl)
    have HX2 := Lib.hid (HCS.out 2 x2 rfl)
    have HX3 := Lib.hid (HCS.out 3 x3 rfl)
    have HHA : Hid (∀ (u : World) (c : Nat), c < 256 → Calls Try.prog 41 #[.agg #[.int .u64 (x0 : Int), .int .u64 (x1 : Int), .int .u64 (x2 : Int), .int .u64 (x3 : Int)], .int .u8 (c : Int)] u fun e w' => e = .returned (.bool (has [x0, x1, x2, x3] c)) ∧ Below u.heap.size u w') := Lib.hid (fun u c hc => rHas_any ha hc u)
    clear ha
    go_enter Try.func59, Try.ntmps59
    go_wp2_with (first | (go_at_call 44; refine HK.out.mono ?_; rintro e w1 ⟨v1, rfl, i1, k1⟩; obtain ⟨A5, c5, hv1⟩ := i1.form; rw [HKL.out] at hv1; subst hv1; have I1 := Lib.hid i1; have K1 := Lib.hid k1; clear i1 k1) | (go_at_call 70; (with_reducible refine (HGR.out _).mono ?_); rintro e w2 ⟨v2, rfl, h2, k2⟩; have K2 := Lib.hid (grows K1.out k2); have HM2 := h2.mono K1.out.size; have I2 := Lib.hid (I1.out.below k2); have d0 := (K2.out.cell (p := ⟨b, off + p * 8, none⟩) HBB.out).trans HC0.out; have d6 := (K2.out.cell (p := ⟨b, off + p * 8 + 6, none⟩) HBB.out).trans HC6.out; have d7 := (K2.out.cell (p := ⟨b, off + p * 8 + 7, none⟩) HBB.out).trans HC7.out; have HG2 := Lib.hid HM2; obtain ⟨g2, c2, b2, rfl, _⟩ := h2; clear k2 HM2))
    clear d0 d6 d7
    obtain ⟨g3, c3, b3, hv3, hcap, hg, hb, hx⟩ := HG2.out
    injection hv3 with hv3 _ hc3; injection hv3 with hv3; injection hv3 with hv3 _ _; subst hv3; subst hc3
    have Hg := Lib.hid hg; have Hb := Lib.hid hb; have HX := Lib.hid hx
    clear hx hg hb
    go_loopw [9] (fun s9 wr => ∃ k : Nat, s9 = .int .i64 (k : Int) ∧ k ≤ s.size ∧ Hid (grdx wr 4 g2 b3 n (setTo S [x0, x1, x2, x3] k)) ∧ Hid (Below w.heap.size w wr)) (fun s9 _ => s.size - (intOf s9).toNat)
    case atStart => exact ⟨0, rfl, by omega, Lib.hid (HX.out.congr (fun x y _ _ => by unfold noG setTo; simp)), K2⟩
    case round =>
      obtain ⟨k, rfl, hk, HH, HB⟩ := hrel
      by_cases hks : k < s.size
      · have hks' : (k : Int) < (s.size : Int) := by omega
        have hk0 : (0 : Int) ≤ (k : Int) := by omega
        obtain ⟨x, hx, HXX⟩ : ∃ x : UInt8, s[k]'hks = x ∧ Hid (s[k]'hks = x) := ⟨_, rfl, Lib.hid rfl⟩
        have hx256 : x.toNat < 256 := UInt8.toNat_lt x
        have HBY : Hid (S.getD k 0 = x.toNat) := Lib.hid (by rw [HSS.out, nb_get hks, hx])
        have HKS : Hid (k < s.size ∧ k < n ∧ k + 1 < n ∧ k < S.length) := Lib.hid (by have := HNN.out; have := HSL.out; omega)
        obtain ⟨j, hj⟩ : ∃ j, j = k + 1 := ⟨_, rfl⟩
        have HJ1 : Hid (wrap64 ((k : Int) + 1) = (j : Int)) := Lib.hid (by have := HS5.out; rw [wrap64_in (by omega) (by omega)]; omega)
        have HJ2 : Hid (IntKind.i64.wrap ((k : Int) + 1) = (j : Int)) := Lib.hid (by have := HS5.out; rw [IntKind.wrap_i64]; omega)
        have hjn : (j : Int) < (n : Int) := by have := HKS.out; omega
        have hj0 : (0 : Int) ≤ (j : Int) := by omega
        have hkn : (k : Int) < (n : Int) := by have := HKS.out; omega
        have r0 := HH.out.row k HKS.out.2.1
        have HR0 : Hid (∀ u, Below wr.heap.size wr u → u.cell? ⟨b3 k, j, none⟩ = some (.bool (setTo S [x0, x1, x2, x3] k k j)) ∧ u.frozen? ⟨b3 k, j, none⟩ = false ∧ grdx (u.setCell ⟨b3 k, j, none⟩ (.bool (has [x0, x1, x2, x3] x.toNat))) 4 g2 b3 n (setTo S [x0, x1, x2, x3] (k + 1)) ∧ Below w.heap.size w (u.setCell ⟨b3 k, j, none⟩ (.bool (has [x0, x1, x2, x3] x.toNat)))) := Lib.hid (fun u ku => by
          have hh := HH.out.below ku
          rw [hj]
          refine ⟨hh.cell HKS.out.2.1 HKS.out.2.2.1, (hh.blk k HKS.out.2.1).frozen _, ?_, (grows HB.out ku).setCell (p := ⟨b3 k, k + 1, none⟩) (Hb.out k HKS.out.2.1) _⟩
          rw [← HBY.out]
          exact (hh.store HKS.out.2.1 HKS.out.2.2.1 _).congr (fun x y _ _ => setTo_next HKS.out.2.2.2 x y))
        have d2 := (HB.out.cell (p := ⟨b, off + p * 8 + 2, none⟩) HBB.out).trans HX0.out
        have d3 := (HB.out.cell (p := ⟨b, off + p * 8 + 2 + 1, none⟩) HBB.out).trans HX1.out
        have d4 := (HB.out.cell (p := ⟨b, off + p * 8 + 2 + 2, none⟩) HBB.out).trans HX2.out
        have d5 := (HB.out.cell (p := ⟨b, off + p * 8 + 2 + 3, none⟩) HBB.out).trans HX3.out
        have HJ := Lib.hid hj
        clear hj
        go_wp2_with fail
        have HSK : Hid (∀ u, Below wr.heap.size wr u → u.cell? ⟨g2, k, none⟩ = some (.slice (some ⟨b3 k, 0, none⟩) n n) ∧ u.cell? ⟨b, off + p * 8 + 2, none⟩ = some (.int .u64 (x0 : Int)) ∧ u.cell? ⟨b, off + p * 8 + 2 + 1, none⟩ = some (.int .u64 (x1 : Int)) ∧ u.cell? ⟨b, off + p * 8 + 2 + 2, none⟩ = some (.int .u64 (x2 : Int)) ∧ u.cell? ⟨b, off + p * 8 + 2 + 3, none⟩ = some (.int .u64 (x3 : Int))) := Lib.hid (fun u ku => ⟨(HH.out.below ku).row k HKS.out.2.1, ((grows HB.out ku).cell (p := ⟨b, off + p * 8 + 2, none⟩) HBB.out).trans HX0.out, ((grows HB.out ku).cell (p := ⟨b, off + p * 8 + 2 + 1, none⟩) HBB.out).trans HX1.out, ((grows HB.out ku).cell (p := ⟨b, off + p * 8 + 2 + 2, none⟩) HBB.out).trans HX2.out, ((grows HB.out ku).cell (p := ⟨b, off + p * 8 + 2 + 3, none⟩) HBB.out).trans HX3.out⟩)
        have HNE : Hid (g2 ≠ b3 k ∧ b ≠ b3 k) := Lib.hid ⟨fun e => HH.out.ne k HKS.out.2.1 e.symm, fun e => by have h1 := Hb.out k HKS.out.2.1; have h2 := HBB.out; omega⟩
        clear d2 d3 d4 d5 r0
        have KD := HSK.out wr.drew (below_draws wr 1)
        refine wp_region_held_drew (S := (fun u => u.cell? ⟨g2, k, none⟩ = some (.slice (some ⟨b3 k, 0, none⟩) n n) ∧ u.cell? ⟨b, off + p * 8 + 2, none⟩ = some (.int .u64 (x0 : Int)) ∧ u.cell? ⟨b, off + p * 8 + 2 + 1, none⟩ = some (.int .u64 (x1 : Int)) ∧ u.cell? ⟨b, off + p * 8 + 2 + 2, none⟩ = some (.int .u64 (x2 : Int)) ∧ u.cell? ⟨b, off + p * 8 + 2 + 3, none⟩ = some (.int .u64 (x3 : Int)))) (by kernel_rfl) KD (fun hHeld => ?_)
        refine takeH (i := 0) (d := some 32) (v := ?v0) rfl rfl (by kernel_rfl) (by kernel_rfl) (by kernel_rfl) (fun _ _ _ h => h) (Or.inl ⟨by rfl, ?hy0⟩) (by assumption) ?rest0
        case hy0 => (intro w9 hSw; (try dsimp only at hSw); (try obtain ⟨s0, s1, s2, s3, s4⟩ := hSw); first | (go_simp; done) | (go_simp; with_reducible rfl))
        try simp only [Act.put, List.setIfInBounds_toArray, List.set_cons_zero, List.set_cons_succ]
        refine takeH (i := 1) (d := some 33) (v := ?v1) rfl rfl (by kernel_rfl) (by kernel_rfl) (by kernel_rfl) (fun _ _ _ h => h) (Or.inl ⟨by rfl, ?hy1⟩) (by assumption) ?rest1
        case hy1 => (intro w9 hSw; (try dsimp only at hSw); (try obtain ⟨s0, s1, s2, s3, s4⟩ := hSw); first | (go_simp; done) | (go_simp; with_reducible rfl))
        try simp only [Act.put, List.setIfInBounds_toArray, List.set_cons_zero, List.set_cons_succ]
        refine takeH (i := 2) (d := some 34) (v := ?v2) rfl rfl (by kernel_rfl) (by kernel_rfl) (by kernel_rfl) (fun _ _ _ h => h) (Or.inl ⟨by rfl, ?hy2⟩) (by assumption) ?rest2
        case hy2 => (intro w9 hSw; (try dsimp only at hSw); (try obtain ⟨s0, s1, s2, s3, s4⟩ := hSw); first | (go_simp; done) | (go_simp; with_reducible rfl))
        try simp only [Act.put, List.setIfInBounds_toArray, List.set_cons_zero, List.set_cons_succ]
        refine takeH (i := 3) (d := some 35) (v := ?v3) rfl rfl (by kernel_rfl) (by kernel_rfl) (by kernel_rfl) (fun _ _ _ h => h) (Or.inl ⟨by rfl, ?hy3⟩) (by assumption) ?rest3
        case hy3 => (intro w9 hSw; (try dsimp only at hSw); (try obtain ⟨s0, s1, s2, s3, s4⟩ := hSw); first | (go_simp; done) | (go_simp; with_reducible rfl))
        try simp only [Act.put, List.setIfInBounds_toArray, List.set_cons_zero, List.set_cons_succ]
        refine takeH (i := 4) (d := some 36) (v := ?v4) rfl rfl (by kernel_rfl) (by kernel_rfl) (by kernel_rfl) (fun _ _ _ h => h) (Or.inl ⟨by rfl, ?hy4⟩) (by assumption) ?rest4
        case hy4 => (intro w9 hSw; (try dsimp only at hSw); (try obtain ⟨s0, s1, s2, s3, s4⟩ := hSw); first | (go_simp; done) | (go_simp; with_reducible rfl))
        try simp only [Act.put, List.setIfInBounds_toArray, List.set_cons_zero, List.set_cons_succ]
        refine takeH (i := 5) (d := some 37) (v := .int .i64 (j : Int)) rfl rfl (by kernel_rfl) (by kernel_rfl) (by kernel_rfl) (fun _ _ _ h => h) (Or.inl ⟨by rfl, ?hy5⟩) (by assumption) ?rest5
        case hy5 => (intro w9 hSw; clear hSw; first | (go_simp; exact HJ1.out) | (go_simp; exact HJ2.out))
        try simp only [Act.put, List.setIfInBounds_toArray, List.set_cons_zero, List.set_cons_succ]
        refine takeH (i := 6) (d := some 38) (v := ?v6) rfl rfl (by kernel_rfl) (by kernel_rfl) (by kernel_rfl) (fun _ _ _ h => h) (Or.inl ⟨by rfl, ?hy6⟩) (by assumption) ?rest6
        case hy6 => (intro w9 hSw; (try dsimp only at hSw); (try obtain ⟨s0, s1, s2, s3, s4⟩ := hSw); first | (go_simp; done) | (go_simp; with_reducible rfl))
        try simp only [Act.put, List.setIfInBounds_toArray, List.set_cons_zero, List.set_cons_succ]
        refine takeH (i := 7) (d := some 39) (v := ?v7) rfl rfl (by kernel_rfl) (by kernel_rfl) (by kernel_rfl) (fun _ _ _ h => h) (Or.inl ⟨by rfl, ?hy7⟩) (by assumption) ?rest7
        case hy7 => (intro w9 hSw; (try dsimp only at hSw); (try obtain ⟨s0, s1, s2, s3, s4⟩ := hSw); first | (go_simp; done) | (go_simp; with_reducible rfl))
        try simp only [Act.put, List.setIfInBounds_toArray, List.set_cons_zero, List.set_cons_succ]
        refine takeH (i := 8) (d := some 40) (v := ?v8) rfl rfl (by kernel_rfl) (by kernel_rfl) (by kernel_rfl) (fun _ _ _ h => h) (Or.inl ⟨by rfl, ?hy8⟩) (by assumption) ?rest8
        case hy8 => (intro w9 hSw; (try dsimp only at hSw); (try obtain ⟨s0, s1, s2, s3, s4⟩ := hSw); first | (go_simp; done) | (go_simp; with_reducible rfl))
        try simp only [Act.put, List.setIfInBounds_toArray, List.set_cons_zero, List.set_cons_succ]
        refine takeH (i := 9) (d := some 41) (v := ?v9) rfl rfl (by kernel_rfl) (by kernel_rfl) (by kernel_rfl) (fun _ _ _ h => h) (Or.inl ⟨by rfl, ?hy9⟩) (by assumption) ?rest9
        case hy9 => (intro w9 hSw; (try dsimp only at hSw); (try obtain ⟨s0, s1, s2, s3, s4⟩ := hSw); first | (go_simp; done) | (go_simp; with_reducible rfl))
        try simp only [Act.put, List.setIfInBounds_toArray, List.set_cons_zero, List.set_cons_succ]
        refine takeH (i := 10) (d := some 42) (v := ?v10) rfl rfl (by kernel_rfl) (by kernel_rfl) (by kernel_rfl) (fun _ _ _ h => h) (Or.inl ⟨by rfl, ?hy10⟩) (by assumption) ?rest10
        case hy10 => (intro w9 hSw; (try dsimp only at hSw); (try obtain ⟨s0, s1, s2, s3, s4⟩ := hSw); first | (go_simp; done) | (go_simp; with_reducible rfl))
        try simp only [Act.put, List.setIfInBounds_toArray, List.set_cons_zero, List.set_cons_succ]
        refine takeH (i := 11) (d := some 43) (v := ?v11) rfl rfl (by kernel_rfl) (by kernel_rfl) (by kernel_rfl) (fun _ _ _ h => h) (Or.inl ⟨by rfl, ?hy11⟩) (by assumption) ?rest11
        case hy11 => (intro w9 hSw; (try dsimp only at hSw); (try obtain ⟨s0, s1, s2, s3, s4⟩ := hSw); first | (go_simp; done) | (go_simp; with_reducible rfl))
        try simp only [Act.put, List.setIfInBounds_toArray, List.set_cons_zero, List.set_cons_succ]
        refine takeH (i := 12) (d := some 44) (v := ?v12) rfl rfl (by kernel_rfl) (by kernel_rfl) (by kernel_rfl) (fun _ _ _ h => h) (Or.inl ⟨by rfl, ?hy12⟩) (by assumption) ?rest12
        case hy12 => (intro w9 hSw; (try dsimp only at hSw); (try obtain ⟨s0, s1, s2, s3, s4⟩ := hSw); first | (go_simp; done) | (go_simp; with_reducible rfl))
        try simp only [Act.put, List.setIfInBounds_toArray, List.set_cons_zero, List.set_cons_succ]
        refine takeH (i := 13) (d := some 45) (v := ?v13) rfl rfl (by kernel_rfl) (by kernel_rfl) (by kernel_rfl) (fun _ _ _ h => h) (Or.inl ⟨by rfl, ?hy13⟩) (by assumption) ?rest13
        case hy13 => (intro w9 hSw; (try dsimp only at hSw); (try obtain ⟨s0, s1, s2, s3, s4⟩ := hSw); first | (go_simp; done) | (go_simp; with_reducible rfl))
        try simp only [Act.put, List.setIfInBounds_toArray, List.set_cons_zero, List.set_cons_succ]
        refine wpAnyH_ready (rs := [14]) (by kernel_rfl) (by simp) ?_
        refine readyH (d := some 46) rfl rfl (fun K' hK => ?_)
        go_simp
        go_at_call 41
        refine (HHA.out _ x.toNat hx256).mono ?_
        rintro e w3 ⟨rfl, k3⟩
        have K3 := Lib.hid (show Below wr.heap.size wr w3 from grows (below_draws wr 1) k3)
        have HS3 := HSK.out w3 K3.out
        obtain ⟨q1, q2, q3, q4⟩ := HR0.out w3 K3.out
        have Q3 := Lib.hid q3
        have Q4 := Lib.hid q4
        clear k3 q3 q4
        go_wp2_with fail
        refine hK.out _ _ HS3 (fun hHeld3 => ?_)
        clear hK K' hHeld
        try simp only [Act.put, List.setIfInBounds_toArray, List.set_cons_zero, List.set_cons_succ]
        refine takeH (i := 15) (d := some 47) (v := ?v15) rfl rfl (by kernel_rfl) (by kernel_rfl) (by kernel_rfl) (fun _ _ _ h => h) (Or.inl ⟨by rfl, ?hy15⟩) (by assumption) ?rest15
        case hy15 => (intro w9 hSw; (try dsimp only at hSw); (try obtain ⟨s0, s1, s2, s3, s4⟩ := hSw); first | (go_simp; done) | (go_simp; with_reducible rfl))
        try simp only [Act.put, List.setIfInBounds_toArray, List.set_cons_zero, List.set_cons_succ]
        refine wpAnyH_ready (rs := [16]) (by kernel_rfl) (by simp) ?_
        refine readyH (d := none) rfl rfl (fun K' hK => ?_)
        go_simp
        refine hK.out _ _ (by obtain ⟨s0, s1, s2, s3, s4⟩ := HS3; exact ⟨(cell_other HNE.out.1).trans s0, (cell_other HNE.out.2).trans s1, (cell_other HNE.out.2).trans s2, (cell_other HNE.out.2).trans s3, (cell_other HNE.out.2).trans s4⟩) (fun hHeld4 => ?_)
        clear hK K' hHeld3 hHeld4 HS3 q1 q2
        try simp only [Act.put, List.setIfInBounds_toArray, List.set_cons_zero, List.set_cons_succ]
        refine wpAnyH_done (by kernel_rfl) ?_ _
        have hs5 := HS5.out
        have hks2 := HKS.out.1
        go_wp2
        go_roundw
        case rel => exact ⟨k + 1, by go_num, by have := HKS.out; omega, Q3, Q4⟩
        case measure => have := HKS.out; simp [intOf]; omega
      · obtain rfl : k = s.size := by omega
        have hks' : ¬ (s.size : Int) < (s.size : Int) := by omega
        go_wp2
        go_ret
        exact ⟨_, rfl, ⟨g2, c2, b3, rfl, hcap, Hg.out, Hb.out, HH.out.congr (fun x y _ _ => by rw [← HSL.out, setTo_all, pairs])⟩, HB.out⟩
  | emp =>
    dsimp only [hd, kidsT] at HC0 HC6 HC7 HCS HKL HK HKid HKB
    go_enter Try.func59, Try.ntmps59
    go_wp2_with (first | (go_at_call 44; refine HK.out.mono ?_; rintro e w1 ⟨v1, rfl, i1, k1⟩; obtain ⟨A5, c5, hv1⟩ := i1.form; rw [HKL.out] at hv1; subst hv1; have I1 := Lib.hid i1; have K1 := Lib.hid k1; clear i1 k1) | (go_at_call 70; (with_reducible refine (HGR.out _).mono ?_); rintro e w2 ⟨v2, rfl, h2, k2⟩; have K2 := Lib.hid (grows K1.out k2); have HM2 := h2.mono K1.out.size; have I2 := Lib.hid (I1.out.below k2); have d0 := (K2.out.cell (p := ⟨b, off + p * 8, none⟩) HBB.out).trans HC0.out; have d6 := (K2.out.cell (p := ⟨b, off + p * 8 + 6, none⟩) HBB.out).trans HC6.out; have d7 := (K2.out.cell (p := ⟨b, off + p * 8 + 7, none⟩) HBB.out).trans HC7.out; have HG2 := Lib.hid HM2; obtain ⟨g2, c2, b2, rfl, _⟩ := h2; clear k2 HM2) | (go_at_call 71; (with_reducible refine (HSA.out _).mono ?_); rintro e w3 ⟨v3, rfl, h3, k3⟩; have K3 := Lib.hid (grows K2.out k3); have G3 := Lib.hid (h3.mono K2.out.size); obtain ⟨g3, c3, b3, rfl, _⟩ := h3; clear k3))
    go_ret
    exact ⟨_, rfl, G3.out.congr (fun x y _ _ => by rw [pairs]), K3.out⟩
  | cat ts =>
    dsimp only [hd, kidsT] at HC0 HC6 HC7 HCS HKL HK HKid HKB
    obtain ⟨R, hR⟩ : ∃ R, R = pairsC S sameG ts := ⟨_, rfl⟩
    have HR := Lib.hid hR
    rw [show pairs S (.cat ts) = R by rw [hR, pairs]]
    obtain ⟨K, hK⟩ : ∃ K, K = ts.length := ⟨_, rfl⟩
    have HKK := Lib.hid hK
    rw [← hK] at HKL HK HKid HKB
    have hKb := HKB.out
    obtain ⟨KK, hKK⟩ : ∃ KK, KK = kidsM l K ((p : Int) + 1) := ⟨_, rfl⟩
    rw [← hKK] at HKL HK HKid
    clear hR hK hKK
    go_enter Try.func59, Try.ntmps59
    go_wp2_with (first | (go_at_call 44; refine HK.out.mono ?_; rintro e w1 ⟨v1, rfl, i1, k1⟩; obtain ⟨A5, c5, hv1⟩ := i1.form; rw [HKL.out] at hv1; subst hv1; have I1 := Lib.hid i1; have K1 := Lib.hid k1; clear i1 k1) | (go_at_call 70; (with_reducible refine (HGR.out _).mono ?_); rintro e w2 ⟨v2, rfl, h2, k2⟩; have K2 := Lib.hid (grows K1.out k2); have HM2 := h2.mono K1.out.size; have I2 := Lib.hid (I1.out.below k2); have d0 := (K2.out.cell (p := ⟨b, off + p * 8, none⟩) HBB.out).trans HC0.out; have d6 := (K2.out.cell (p := ⟨b, off + p * 8 + 6, none⟩) HBB.out).trans HC6.out; have d7 := (K2.out.cell (p := ⟨b, off + p * 8 + 7, none⟩) HBB.out).trans HC7.out; have HG2 := Lib.hid HM2; obtain ⟨g2, c2, b2, rfl, _⟩ := h2; clear k2 HM2) | (go_at_call 71; (with_reducible refine (HSA.out _).mono ?_); rintro e w3 ⟨v3, rfl, h3, k3⟩; have K3 := Lib.hid (grows K2.out k3); have G3 := Lib.hid (h3.mono K2.out.size); have I3 := Lib.hid (I2.out.below k3); obtain ⟨g3, c3, b3, rfl, _⟩ := h3; clear k3))
    clear d0 d6 d7
    go_loopw [8, 10] (fun s8 sj wr => ∃ (j : Nat) (v : Value) (G : Gd), s8 = v ∧ sj = .int .i64 (j : Int) ∧ j ≤ K ∧ Hid (grd wr 4 w.heap.size v n G) ∧ Hid (pairsC S G (ts.drop j) = R) ∧ Hid (Below w3.heap.size w3 wr)) (fun _ sj _ => K - (intOf sj).toNat)
    case atStart => exact ⟨0, _, sameG, rfl, rfl, by omega, G3, Lib.hid (by rw [HR.out, List.drop_zero]), Lib.hid (Below.refl _ _)⟩
    case round =>
      obtain ⟨j, v, G, rfl, rfl, hj, HG, HRR, HB⟩ := hrel
      obtain ⟨g4, c4, b4, hv, _, _, _, hx4⟩ := HG.out
      subst hv
      have HX4 := Lib.hid hx4
      clear hx4
      by_cases hjn : j < K
      · obtain ⟨u, hu⟩ : ∃ u, ts[j]? = some u := ⟨_, List.getElem?_eq_getElem (by rw [← HKK.out]; exact hjn)⟩
        obtain ⟨q, hq, hcall⟩ := HKid.out j u hu
        obtain ⟨g5, o5, rfl, hg5, hc5⟩ := (ints.row (I3.out.below HB.out)) j (by rw [HKL.out]; exact hjn)
        have hat : at' KK j = (q : Int) := by
          have h1 := at_get (l := KK) (i := j) (by rw [HKL.out]; exact hjn)
          rw [hq] at h1
          exact (Option.some.inj h1).symm
        rw [hat] at hc5
        have HWB := Lib.hid (grows K3.out HB.out)
        have HC := Lib.hid (hcall wr (H.out.below HWB.out))
        have hjn' : (j : Int) < (K : Int) := by omega
        have hj0 : (0 : Int) ≤ (j : Int) := by omega
        have HJN := Lib.hid hjn
        have HNX : Hid (pairsC S (thn G (pairs S u) n) (ts.drop (j + 1)) = R) := Lib.hid (by rw [← HRR.out, pairsC_step S hu G, HSL.out, HNN.out])
        clear hcall hq hat hjn hu hg5
        go_wp2_with (first | (go_at_call 59; refine HC.out.mono ?_; rintro e w6 ⟨v6, rfl, h6, k6⟩; have K6 := Lib.hid k6; have HX6 := Lib.hid (HX4.out.below k6); obtain ⟨g6, c6, b6, rfl, _, _, _, hx6⟩ := h6; have HY6 := Lib.hid hx6; clear k6 hx6) | (go_at_call 72; refine (HTH.out _ _ _ _ _ _ _ _ _ HX6.out HY6.out).mono ?_; rintro e w7 ⟨v7, rfl, h7, k7⟩; have K7 := Lib.hid (grows K6.out k7); have G7 := Lib.hid (h7.mono (grows HWB.out K6.out).size); obtain ⟨g7, c7, b7, rfl, _⟩ := h7; clear k7))
        go_roundw
        case rel => exact ⟨j + 1, _, _, rfl, by go_num, by have := HJN.out; omega, G7, HNX, Lib.hid (grows HB.out K7.out)⟩
        case measure => have := HJN.out; simp [intOf]; omega
      · have hj' : ¬ (j : Int) < (K : Int) := by omega
        have HQ : Hid (G = R) := Lib.hid (by rw [← HRR.out, List.drop_eq_nil_of_le (by rw [← HKK.out]; omega), pairsC])
        go_wp2
        go_ret
        exact ⟨_, rfl, by rw [← HQ.out]; exact HG.out, grows K3.out HB.out⟩
  | alt ts =>
    dsimp only [hd, kidsT] at HC0 HC6 HC7 HCS HKL HK HKid HKB
    obtain ⟨R, hR⟩ : ∃ R, R = pairsA S noG ts := ⟨_, rfl⟩
    have HR := Lib.hid hR
    rw [show pairs S (.alt ts) = R by rw [hR, pairs]]
    obtain ⟨K, hK⟩ : ∃ K, K = ts.length := ⟨_, rfl⟩
    have HKK := Lib.hid hK
    rw [← hK] at HKL HK HKid HKB
    have hKb := HKB.out
    obtain ⟨KK, hKK⟩ : ∃ KK, KK = kidsM l K ((p : Int) + 1) := ⟨_, rfl⟩
    rw [← hKK] at HKL HK HKid
    clear hR hK hKK
    go_enter Try.func59, Try.ntmps59
    go_wp2_with (first | (go_at_call 44; refine HK.out.mono ?_; rintro e w1 ⟨v1, rfl, i1, k1⟩; obtain ⟨A5, c5, hv1⟩ := i1.form; rw [HKL.out] at hv1; subst hv1; have I1 := Lib.hid i1; have K1 := Lib.hid k1; clear i1 k1) | (go_at_call 70; (with_reducible refine (HGR.out _).mono ?_); rintro e w2 ⟨v2, rfl, h2, k2⟩; have K2 := Lib.hid (grows K1.out k2); have HM2 := h2.mono K1.out.size; have I2 := Lib.hid (I1.out.below k2); have d0 := (K2.out.cell (p := ⟨b, off + p * 8, none⟩) HBB.out).trans HC0.out; have d6 := (K2.out.cell (p := ⟨b, off + p * 8 + 6, none⟩) HBB.out).trans HC6.out; have d7 := (K2.out.cell (p := ⟨b, off + p * 8 + 7, none⟩) HBB.out).trans HC7.out; have HG2 := Lib.hid HM2; obtain ⟨g2, c2, b2, rfl, _⟩ := h2; clear k2 HM2))
    clear d0 d6 d7
    go_loopw [8, 11] (fun s8 sj wr => ∃ (j : Nat) (v : Value) (G : Gd), s8 = v ∧ sj = .int .i64 (j : Int) ∧ j ≤ K ∧ Hid (grd wr 4 w.heap.size v n G) ∧ Hid (pairsA S G (ts.drop j) = R) ∧ Hid (Below w2.heap.size w2 wr)) (fun _ sj _ => K - (intOf sj).toNat)
    case atStart => exact ⟨0, _, noG, rfl, rfl, by omega, HG2, Lib.hid (by rw [HR.out, List.drop_zero]), Lib.hid (Below.refl _ _)⟩
    case round =>
      obtain ⟨j, v, G, rfl, rfl, hj, HG, HRR, HB⟩ := hrel
      obtain ⟨g4, c4, b4, hv, _, _, _, hx4⟩ := HG.out
      subst hv
      have HX4 := Lib.hid hx4
      clear hx4
      by_cases hjn : j < K
      · obtain ⟨u, hu⟩ : ∃ u, ts[j]? = some u := ⟨_, List.getElem?_eq_getElem (by rw [← HKK.out]; exact hjn)⟩
        obtain ⟨q, hq, hcall⟩ := HKid.out j u hu
        obtain ⟨g5, o5, rfl, hg5, hc5⟩ := (ints.row (I2.out.below HB.out)) j (by rw [HKL.out]; exact hjn)
        have hat : at' KK j = (q : Int) := by
          have h1 := at_get (l := KK) (i := j) (by rw [HKL.out]; exact hjn)
          rw [hq] at h1
          exact (Option.some.inj h1).symm
        rw [hat] at hc5
        have HWB := Lib.hid (grows K2.out HB.out)
        have HC := Lib.hid (hcall wr (H.out.below HWB.out))
        have hjn' : (j : Int) < (K : Int) := by omega
        have hj0 : (0 : Int) ≤ (j : Int) := by omega
        have HJN := Lib.hid hjn
        have HNX : Hid (pairsA S (orG G (pairs S u)) (ts.drop (j + 1)) = R) := Lib.hid (by rw [← HRR.out, pairsA_step S hu G])
        clear hcall hq hat hjn hu hg5
        go_wp2_with (first | (go_at_call 59; refine HC.out.mono ?_; rintro e w6 ⟨v6, rfl, h6, k6⟩; have K6 := Lib.hid k6; have HX6 := Lib.hid (HX4.out.below k6); obtain ⟨g6, c6, b6, rfl, _, _, _, hx6⟩ := h6; have HY6 := Lib.hid hx6; clear k6 hx6) | (go_at_call 73; refine (HEI.out _ _ _ _ _ _ _ _ _ HX6.out HY6.out).mono ?_; rintro e w7 ⟨v7, rfl, h7, k7⟩; have K7 := Lib.hid (grows K6.out k7); have G7 := Lib.hid (h7.mono (grows HWB.out K6.out).size); obtain ⟨g7, c7, b7, rfl, _⟩ := h7; clear k7))
        go_roundw
        case rel => exact ⟨j + 1, _, _, rfl, by go_num, by have := HJN.out; omega, G7, HNX, Lib.hid (grows HB.out K7.out)⟩
        case measure => have := HJN.out; simp [intOf]; omega
      · have hj' : ¬ (j : Int) < (K : Int) := by omega
        have HQ : Hid (G = R) := Lib.hid (by rw [← HRR.out, List.drop_eq_nil_of_le (by rw [← HKK.out]; omega), pairsA])
        go_wp2
        go_ret
        exact ⟨_, rfl, by rw [← HQ.out]; exact HG.out, grows K2.out HB.out⟩
  | star u =>
    dsimp only [hd, kidsT] at HC0 HC6 HC7 HCS HKL HK HKid HKB
    obtain ⟨KK, hKK⟩ : ∃ KK, KK = kidsM l [u].length ((p : Int) + 1) := ⟨_, rfl⟩
    rw [← hKK] at HKL HK HKid
    clear hKK
    obtain ⟨q, hq, hcall⟩ := HKid.out 0 u rfl
    have HL1 : Hid (KK.length = 1) := Lib.hid HKL.out
    have HKL := HL1
    have HAT : Hid (at' KK 0 = (q : Int)) := Lib.hid (by
      have h1 := at_get (l := KK) (i := 0) (by rw [HL1.out]; decide)
      rw [hq] at h1
      exact (Option.some.inj h1).symm)
    have HCC := Lib.hid hcall
    obtain ⟨fu, hfu⟩ : ∃ fu : Gd, fu = pairs S u := ⟨_, rfl⟩
    rw [← hfu] at HCC
    have HFU := Lib.hid hfu
    clear hq hcall hfu
    go_enter Try.func59, Try.ntmps59
    go_wp2_with (first | (go_at_call 44; refine HK.out.mono ?_; rintro e w1 ⟨v1, rfl, i1, k1⟩; obtain ⟨A5, c5, hv1⟩ := i1.form; rw [HKL.out] at hv1; subst hv1; have I1 := Lib.hid i1; have K1 := Lib.hid k1; clear i1 k1) | (go_at_call 70; (with_reducible refine (HGR.out _).mono ?_); rintro e w2 ⟨v2, rfl, h2, k2⟩; have K2 := Lib.hid (grows K1.out k2); have HM2 := h2.mono K1.out.size; have I2 := Lib.hid (I1.out.below k2); have d0 := (K2.out.cell (p := ⟨b, off + p * 8, none⟩) HBB.out).trans HC0.out; have d6 := (K2.out.cell (p := ⟨b, off + p * 8 + 6, none⟩) HBB.out).trans HC6.out; have d7 := (K2.out.cell (p := ⟨b, off + p * 8 + 7, none⟩) HBB.out).trans HC7.out; have HG2 := Lib.hid HM2; obtain ⟨g2, c2, b2, rfl, _⟩ := h2; obtain ⟨g5, o5, rfl, hg5, hc5⟩ := (ints.row I2.out) 0 (by rw [HKL.out]; decide); rw [HAT.out, Nat.add_zero] at hc5; have HC := Lib.hid (HCC.out w2 (H.out.below K2.out)); clear k2 HM2) | (go_at_call 59; refine HC.out.mono ?_; rintro e w6 ⟨v6, rfl, h6, k6⟩; have K6 := Lib.hid (grows K2.out k6); obtain ⟨g6, c6, b6, rfl, _, _, _, hx6⟩ := h6; have HY6 := Lib.hid hx6; clear k6 hx6) | (go_at_call 74; refine (HTI.out _ _ _ _ _ 0 (-1) (by decide) (by decide) (by decide) HY6.out).mono ?_; rintro e w7 ⟨v7, rfl, h7, k7⟩; have K7 := Lib.hid (grows K6.out k7); have G7 := Lib.hid (h7.mono K6.out.size); obtain ⟨g7, c7, b7, rfl, _⟩ := h7; clear k7))
    go_ret
    exact ⟨_, rfl, G7.out.congr (fun x y _ _ => by rw [pairs, HSL.out, ← HNN.out, HFU.out]), K7.out⟩
  | plus u =>
    dsimp only [hd, kidsT] at HC0 HC6 HC7 HCS HKL HK HKid HKB
    obtain ⟨KK, hKK⟩ : ∃ KK, KK = kidsM l [u].length ((p : Int) + 1) := ⟨_, rfl⟩
    rw [← hKK] at HKL HK HKid
    clear hKK
    obtain ⟨q, hq, hcall⟩ := HKid.out 0 u rfl
    have HL1 : Hid (KK.length = 1) := Lib.hid HKL.out
    have HKL := HL1
    have HAT : Hid (at' KK 0 = (q : Int)) := Lib.hid (by
      have h1 := at_get (l := KK) (i := 0) (by rw [HL1.out]; decide)
      rw [hq] at h1
      exact (Option.some.inj h1).symm)
    have HCC := Lib.hid hcall
    obtain ⟨fu, hfu⟩ : ∃ fu : Gd, fu = pairs S u := ⟨_, rfl⟩
    rw [← hfu] at HCC
    have HFU := Lib.hid hfu
    clear hq hcall hfu
    go_enter Try.func59, Try.ntmps59
    go_wp2_with (first | (go_at_call 44; refine HK.out.mono ?_; rintro e w1 ⟨v1, rfl, i1, k1⟩; obtain ⟨A5, c5, hv1⟩ := i1.form; rw [HKL.out] at hv1; subst hv1; have I1 := Lib.hid i1; have K1 := Lib.hid k1; clear i1 k1) | (go_at_call 70; (with_reducible refine (HGR.out _).mono ?_); rintro e w2 ⟨v2, rfl, h2, k2⟩; have K2 := Lib.hid (grows K1.out k2); have HM2 := h2.mono K1.out.size; have I2 := Lib.hid (I1.out.below k2); have d0 := (K2.out.cell (p := ⟨b, off + p * 8, none⟩) HBB.out).trans HC0.out; have d6 := (K2.out.cell (p := ⟨b, off + p * 8 + 6, none⟩) HBB.out).trans HC6.out; have d7 := (K2.out.cell (p := ⟨b, off + p * 8 + 7, none⟩) HBB.out).trans HC7.out; have HG2 := Lib.hid HM2; obtain ⟨g2, c2, b2, rfl, _⟩ := h2; obtain ⟨g5, o5, rfl, hg5, hc5⟩ := (ints.row I2.out) 0 (by rw [HKL.out]; decide); rw [HAT.out, Nat.add_zero] at hc5; have HC := Lib.hid (HCC.out w2 (H.out.below K2.out)); clear k2 HM2) | (go_at_call 59; refine HC.out.mono ?_; rintro e w6 ⟨v6, rfl, h6, k6⟩; have K6 := Lib.hid (grows K2.out k6); obtain ⟨g6, c6, b6, rfl, _, _, _, hx6⟩ := h6; have HY6 := Lib.hid hx6; clear k6 hx6) | (go_at_call 74; refine (HTI.out _ _ _ _ _ 1 (-1) (by decide) (by decide) (by decide) HY6.out).mono ?_; rintro e w7 ⟨v7, rfl, h7, k7⟩; have K7 := Lib.hid (grows K6.out k7); have G7 := Lib.hid (h7.mono K6.out.size); obtain ⟨g7, c7, b7, rfl, _⟩ := h7; clear k7))
    go_ret
    exact ⟨_, rfl, G7.out.congr (fun x y _ _ => by rw [pairs, HSL.out, ← HNN.out, HFU.out]), K7.out⟩
  | opt u =>
    dsimp only [hd, kidsT] at HC0 HC6 HC7 HCS HKL HK HKid HKB
    obtain ⟨KK, hKK⟩ : ∃ KK, KK = kidsM l [u].length ((p : Int) + 1) := ⟨_, rfl⟩
    rw [← hKK] at HKL HK HKid
    clear hKK
    obtain ⟨q, hq, hcall⟩ := HKid.out 0 u rfl
    have HL1 : Hid (KK.length = 1) := Lib.hid HKL.out
    have HKL := HL1
    have HAT : Hid (at' KK 0 = (q : Int)) := Lib.hid (by
      have h1 := at_get (l := KK) (i := 0) (by rw [HL1.out]; decide)
      rw [hq] at h1
      exact (Option.some.inj h1).symm)
    have HCC := Lib.hid hcall
    obtain ⟨fu, hfu⟩ : ∃ fu : Gd, fu = pairs S u := ⟨_, rfl⟩
    rw [← hfu] at HCC
    have HFU := Lib.hid hfu
    clear hq hcall hfu
    go_enter Try.func59, Try.ntmps59
    go_wp2_with (first | (go_at_call 44; refine HK.out.mono ?_; rintro e w1 ⟨v1, rfl, i1, k1⟩; obtain ⟨A5, c5, hv1⟩ := i1.form; rw [HKL.out] at hv1; subst hv1; have I1 := Lib.hid i1; have K1 := Lib.hid k1; clear i1 k1) | (go_at_call 70; (with_reducible refine (HGR.out _).mono ?_); rintro e w2 ⟨v2, rfl, h2, k2⟩; have K2 := Lib.hid (grows K1.out k2); have HM2 := h2.mono K1.out.size; have I2 := Lib.hid (I1.out.below k2); have d0 := (K2.out.cell (p := ⟨b, off + p * 8, none⟩) HBB.out).trans HC0.out; have d6 := (K2.out.cell (p := ⟨b, off + p * 8 + 6, none⟩) HBB.out).trans HC6.out; have d7 := (K2.out.cell (p := ⟨b, off + p * 8 + 7, none⟩) HBB.out).trans HC7.out; have HG2 := Lib.hid HM2; obtain ⟨g2, c2, b2, rfl, _⟩ := h2; obtain ⟨g5, o5, rfl, hg5, hc5⟩ := (ints.row I2.out) 0 (by rw [HKL.out]; decide); rw [HAT.out, Nat.add_zero] at hc5; have HC := Lib.hid (HCC.out w2 (H.out.below K2.out)); clear k2 HM2) | (go_at_call 59; refine HC.out.mono ?_; rintro e w6 ⟨v6, rfl, h6, k6⟩; have K6 := Lib.hid (grows K2.out k6); obtain ⟨g6, c6, b6, rfl, _, _, _, hx6⟩ := h6; have HY6 := Lib.hid hx6; clear k6 hx6) | (go_at_call 74; refine (HTI.out _ _ _ _ _ 0 (1) (by decide) (by decide) (by decide) HY6.out).mono ?_; rintro e w7 ⟨v7, rfl, h7, k7⟩; have K7 := Lib.hid (grows K6.out k7); have G7 := Lib.hid (h7.mono K6.out.size); obtain ⟨g7, c7, b7, rfl, _⟩ := h7; clear k7))
    go_ret
    exact ⟨_, rfl, G7.out.congr (fun x y _ _ => by rw [pairs, HSL.out, ← HNN.out, HFU.out]), K7.out⟩
  | rep lo hi u =>
    dsimp only [hd, kidsT] at HC0 HC6 HC7 HCS HKL HK HKid HKB
    obtain ⟨KK, hKK⟩ : ∃ KK, KK = kidsM l [u].length ((p : Int) + 1) := ⟨_, rfl⟩
    rw [← hKK] at HKL HK HKid
    clear hKK
    obtain ⟨q, hq, hcall⟩ := HKid.out 0 u rfl
    have HL1 : Hid (KK.length = 1) := Lib.hid HKL.out
    have HKL := HL1
    have HAT : Hid (at' KK 0 = (q : Int)) := Lib.hid (by
      have h1 := at_get (l := KK) (i := 0) (by rw [HL1.out]; decide)
      rw [hq] at h1
      exact (Option.some.inj h1).symm)
    have HCC := Lib.hid hcall
    obtain ⟨fu, hfu⟩ : ∃ fu : Gd, fu = pairs S u := ⟨_, rfl⟩
    rw [← hfu] at HCC
    have HFU := Lib.hid hfu
    clear hq hcall hfu
    have hlo : lo ≤ 1000 := by have := HOK.out; unfold okT at this; omega
    have hh1 : -1 ≤ hi := by have := HOK.out; unfold okT at this; omega
    have hh2 : hi ≤ 1000 := by have := HOK.out; unfold okT at this; omega
    go_enter Try.func59, Try.ntmps59
    go_wp2_with (first | (go_at_call 44; refine HK.out.mono ?_; rintro e w1 ⟨v1, rfl, i1, k1⟩; obtain ⟨A5, c5, hv1⟩ := i1.form; rw [HKL.out] at hv1; subst hv1; have I1 := Lib.hid i1; have K1 := Lib.hid k1; clear i1 k1) | (go_at_call 70; (with_reducible refine (HGR.out _).mono ?_); rintro e w2 ⟨v2, rfl, h2, k2⟩; have K2 := Lib.hid (grows K1.out k2); have HM2 := h2.mono K1.out.size; have I2 := Lib.hid (I1.out.below k2); have d0 := (K2.out.cell (p := ⟨b, off + p * 8, none⟩) HBB.out).trans HC0.out; have d6 := (K2.out.cell (p := ⟨b, off + p * 8 + 6, none⟩) HBB.out).trans HC6.out; have d7 := (K2.out.cell (p := ⟨b, off + p * 8 + 7, none⟩) HBB.out).trans HC7.out; have HG2 := Lib.hid HM2; obtain ⟨g2, c2, b2, rfl, _⟩ := h2; obtain ⟨g5, o5, rfl, hg5, hc5⟩ := (ints.row I2.out) 0 (by rw [HKL.out]; decide); rw [HAT.out, Nat.add_zero] at hc5; have HG5 := Lib.hid hg5; have HC5 := Lib.hid hc5; have HD6 := Lib.hid d6; have HD7 := Lib.hid d7; clear k2 HM2))
    have HKE : Hid (∀ x, Below w2.heap.size w2 x → x.cell? ⟨g5, o5, none⟩ = some (.int .i64 (q : Int)) ∧ x.cell? ⟨b, off + p * 8 + 6, none⟩ = some (.int .i64 (lo : Int)) ∧ x.cell? ⟨b, off + p * 8 + 7, none⟩ = some (.int .i64 hi)) := Lib.hid (fun x k => ⟨(k.cell (p := ⟨g5, o5, none⟩) HG5.out).trans HC5.out, (k.cell (p := ⟨b, off + p * 8 + 6, none⟩) (Nat.lt_of_lt_of_le HBB.out K2.out.size)).trans HD6.out, (k.cell (p := ⟨b, off + p * 8 + 7, none⟩) (Nat.lt_of_lt_of_le HBB.out K2.out.size)).trans HD7.out⟩)
    clear d0 d6 d7 hc5 hg5
    obtain ⟨p5, p6, p7⟩ := HKE.out w2.drew (below_draws w2 1)
    go_region_held3 (fun x => x.cell? ⟨g5, o5, none⟩ = some (.int .i64 (q : Int)) ∧ x.cell? ⟨b, off + p * 8 + 6, none⟩ = some (.int .i64 (lo : Int)) ∧ x.cell? ⟨b, off + p * 8 + 7, none⟩ = some (.int .i64 hi)) (first | exact ⟨p5, p6, p7⟩ | exact ⟨q5, q6, q7⟩ | exact ⟨r5, r6, r7⟩ | assumption) (first | (go_at_call 59; refine (HCC.out _ (H.out.below (grows K2.out (below_draws w2 1)))).mono ?_; rintro e w6 ⟨v6, rfl, h6, k6⟩; have K6 := Lib.hid (show Below w2.heap.size w2 w6 from grows (below_draws w2 1) k6); obtain ⟨q5, q6, q7⟩ := HKE.out w6 K6.out; have HM6 := h6; obtain ⟨g6, c6, b6, rfl, _, _, _, hx6⟩ := HM6; have HY6 := Lib.hid hx6; clear k6 hx6 h6) | (go_at_call 74; refine (HTI.out _ _ _ _ _ lo hi hlo hh1 hh2 HY6.out).mono ?_; rintro e w7 ⟨v7, rfl, h7, k7⟩; have K7 := Lib.hid (grows K6.out k7); obtain ⟨r5, r6, r7⟩ := HKE.out w7 K7.out; have G7 := Lib.hid (h7.mono (grows K2.out K6.out).size); have HM7 := h7; obtain ⟨g7, c7, b7, rfl, _⟩ := HM7; clear k7 h7))
    all_goals go_wp2
    all_goals go_ret
    all_goals exact ⟨_, rfl, G7.out.congr (fun x y _ _ => by rw [pairs, HSL.out, ← HNN.out, HFU.out]), grows K2.out K7.out⟩
theorem Match_any {A : Option Addr} {cap : Nat} {t : T} (ht : okT t) (h4 : (enc t).length ≤ 400) {s : ByteArray} (hs : s.size ≤ 50000) {w : World} (H : Hid (nds w A (enc t))) :
    Calls Try.prog 39 #[.slice A (enc t).length cap, .string s] w fun e w' => e = .returned (.bool (pairs (nb s.data.toList) t 0 s.size)) ∧ Below w.heap.size w w' := by
  have HP := Lib.hid (rPairs_all (cap := cap) (l := enc t) (by omega) hs _ t (Nat.le_refl _) ht 0 w H.out (tat_zero t))
  obtain ⟨n, hn⟩ : ∃ n, n = s.size + 1 := ⟨_, rfl⟩
  obtain ⟨N, hN⟩ : ∃ N, N = (enc t).length := ⟨_, rfl⟩
  rw [← hn, ← hN] at HP
  rw [← hN]
  have hsn : (s.size : Int) < (n : Int) := by omega
  have hn0 : (0 : Int) < (n : Int) := by omega
  have HNS : Hid (0 < n ∧ s.size < n) := Lib.hid (by omega)
  clear hn hN h4 hs
  go_enter Try.func39, Try.ntmps39
  go_wp2_with (go_at_call 59; refine HP.out.mono ?_; rintro e w1 ⟨v1, rfl, h1, k1⟩; have K1 := Lib.hid k1; obtain ⟨g1, c1, b1, rfl, _, _, _, hx⟩ := h1; have r0 := hx.row 0 HNS.out.1; have r1 := hx.cell HNS.out.1 HNS.out.2; clear k1 hx)
  go_ret
  exact ⟨rfl, K1.out⟩
end Go.Proofs.Ythjelilmlbbalaa.Av
