/-
  The program's item.
  Conditions: as each theorem says.
-/
import Derived.Test.YtabcehifdomolaaDoorQao
import Derived.Test.YtabcehifdomolaaDoorQba
import Derived.Test.YtabcehifdomolaaDoorQaj
import Derived.Deep.DeepCutAuto
import Derived.Deep.RegionWith
namespace Go.Proofs.YtabcehifdomolaaDoor.Eit
open Go.RowKit Go.PlainAid Go.Proofs.YtabcehifdomolaaDoor.Vm Go.Proofs.YtabcehifdomolaaDoor.Vo Go.Proofs.YtabcehifdomolaaDoor.Bw Go.Proofs.YtabcehifdomolaaDoor.Na Go.Proofs.YtabcehifdomolaaDoor.Tm Go.Proofs.YtabcehifdomolaaDoor.Ts Go.Proofs.YtabcehifdomolaaDoor.Ta Go.Proofs.YtabcehifdomolaaDoor.Tb Go.Proofs.YtabcehifdomolaaDoor.Td Go.Proofs.YtabcehifdomolaaDoor.Tf Go.Proofs.YtabcehifdomolaaDoor.Rm Go.Proofs.YtabcehifdomolaaDoor.Rs Go.Proofs.YtabcehifdomolaaDoor.Ra Go.Proofs.YtabcehifdomolaaDoor.Ep Go.Proofs.YtabcehifdomolaaDoor.Em Go.Proofs.YtabcehifdomolaaDoor.Ek Go.Proofs.YtabcehifdomolaaDoor.Er Go.Proofs.YtabcehifdomolaaDoor.Eo Go.Proofs.YtabcehifdomolaaDoor.Es Go.Proofs.YtabcehifdomolaaDoor.Et Go.Proofs.YtabcehifdomolaaDoor.Ex Go.Proofs.YtabcehifdomolaaDoor.Ech Go.Proofs.YtabcehifdomolaaDoor.Ez Go.Proofs.YtabcehifdomolaaDoor.Ru

/-- What an item answers, once its first char has been read. -/
def itmB (s : ByteArray) (g : Nat) (x : List Nat × Option Nat) (r1 : List Nat) (z : List Nat) (w' : World) : Prop := match r1 with
  | 45 :: r2 => match r2 with
    | [] => z = x.1 ∧ live w' g s []
    | d :: r3 => if d = 93 then dead w' g s 15 (r3.length + 1) else outS (chrP (d :: r3)) (fun y r4 => match x.2, y.2 with
        | some lo, some hi => if hi < lo then dead w' g s 18 (r3.length + 2) else z = frm lo (hi + 1) ∧ live w' g s r4
        | _, _ => dead w' g s 18 (r3.length + 2)) (fun e k => dead w' g s e k)
  | _ => z = x.1 ∧ live w' g s r1
def itmS (s : ByteArray) (g c : Nat) (r : List Nat) (z : List Nat) (w' : World) : Prop := isSet z ∧ outS (chrP (c :: r)) (fun x r1 => itmB s g x r1 z w') (fun e k => dead w' g s e k)
theorem itm_plain {s : ByteArray} {g : Nat} {x : List Nat × Option Nat} {r1 z : List Nat} {w' : World} (h : ∀ r2, r1 ≠ 45 :: r2) (hz : z = x.1) (hl : live w' g s r1) : itmB s g x r1 z w' := by
  unfold itmB
  split
  · next r2 => exact absurd rfl (h r2)
  · exact ⟨hz, hl⟩
theorem bts_one {z : List Nat} {b : Nat} (h : byt z = [b]) : bts z = [UInt8.ofNat b] := by unfold bts; rw [h]; rfl
theorem bts_len (z : List Nat) : (bts z).length = (byt z).length := by unfold bts; rw [List.length_map]
theorem bt_one {z : List Nat} {b : Nat} (h : byt z = [b]) (hb : b < 256) : bt ⟨(bts z).toArray⟩ 0 = (b : Int) := by
  rw [bts_one h]
  show (((UInt8.ofNat b).toNat : Nat) : Int) = _
  simp
  omega
theorem only_some {o : Option Nat} {z : List Nat} {b : Nat} (h : onlyO o z) (hb : byt z = [b]) : o = some b := by
  cases o with
  | none => exact absurd (by rw [hb]; rfl) (show (byt z).length ≠ 1 from h)
  | some c =>
    have h1 : byt z = [c] := h.1
    rw [hb] at h1
    injection h1 with h1
    rw [h1]
theorem only_none {o : Option Nat} {z : List Nat} (h : onlyO o z) (hb : (byt z).length ≠ 1) : o = none := by
  cases o with
  | none => rfl
  | some c => exact absurd (by rw [show byt z = [c] from h.1]; rfl) hb
theorem par.only1 {w w' : World} {g R : Nat} {s : ByteArray} {a : Nat} {c q : Int} (h : par w g s a c q) (o : Only (· = R) w w') (hR : g ≠ R) : par w' g s a c q := Blk.only h o hR
theorem bts_zero : bts zero = [] := by decide +kernel
set_option maxHeartbeats 4000000 in
set_option maxRecDepth 100000 in
theorem item_any {g : Nat} {s : ByteArray} {a : Nat} (hs : s.size ≤ 1000000) {c : Nat} {r : List Nat} (hr : rst s a = c :: r) (h93 : c ≠ 93) {w : World} (H : Hid (par w g s a 0 0)) :
    Calls Tryd.prog 88 #[.pointer (some ⟨g, 0, none⟩)] w fun e w' => ∃ z, e = .returned (.agg (sv z)) ∧ itmS s g c r z w' ∧ Only (· = g) w w' := by
  have HG := Lib.hid H.out.lt
  obtain ⟨w0, hw0⟩ : ∃ w0, w0 = w.alloc (.cells #[.int .u64 0, .int .u64 0, .int .u64 0, .int .u64 0] 36) := ⟨_, rfl⟩
  have HB0 : Hid (bS w w0 g s a 0 0 w.heap.size 36 (sv zero)) := Lib.hid (by rw [hw0]; exact ⟨H.out.below (below_alloc _ _), Blk.fresh _ _ _, (Only.refl _ _).alloc _⟩)
  have HCH : ∀ u, par u g s a 0 0 → Calls Tryd.prog 95 #[.pointer (some ⟨g, 0, none⟩)] u fun e w' => ∃ z, e = .returned (.agg (sv z)) ∧ chrA s g (chrP (c :: r)) z w' ∧ Only (· = g) u w' := fun u h => by
    have := char_any hs hr (Lib.hid h)
    unfold chP at this
    dsimp only at this
    rw [if_neg h93] at this
    exact this
  unfold itmS
  cases hq : chrP (c :: r) with
  | err e1 k1 =>
    rw [hq] at HCH
    have HCC : Hid (∀ u, par u g s a 0 0 → Calls Tryd.prog 95 #[.pointer (some ⟨g, 0, none⟩)] u fun e w' => e = .returned (.agg (sv zero)) ∧ (e1 ≠ 0 ∧ par w' g s s.size (e1 : Int) ((s.size - k1 : Nat) : Int)) ∧ Only (· = g) u w') := Lib.hid (fun u h => (HCH u h).mono fun e w' ⟨z, h1, ⟨_, h2, h3⟩, h4⟩ => ⟨by rw [h1, h2], h3, h4⟩)
    clear HCH hq
    obtain ⟨z, hz⟩ : ∃ z, z = sv zero := ⟨_, rfl⟩
    obtain ⟨hz4, hz1⟩ := set4 (zero_set) hz
    have Hz4 := Lib.hid hz4
    have Hz1 := Lib.hid hz1
    have HzE := Lib.hid hz
    rw [← hz] at HCC
    clear hz hz4 hz1
    go_enter Tryd.func88, Tryd.ntmps88
    go_upto_region 1 with fail
    rw [← hw0]
    clear hw0
    go_upto_region 2 with (first | (go_at_call 95; refine (HCC.out _ HB0.out.p).mono ?_; rintro e w2 ⟨rfl, ⟨he1, p⟩, o⟩; have HB2 := Lib.hid (HB0.out.next (Nat.le_refl _) HG.out p o); clear p o) | (refine wpList_store_row rfl 36 _ _ rfl w2.heap.size z rfl rfl _ _ (zero4 w2) (fit Hz4.out) (Eq.trans (sv4 zero_set) Hz4.out.symm) Hz1.out ?_))
    obtain ⟨w3, hw3⟩ : ∃ w3, w3 = (w2.alloc (.cells #[.int .u64 0, .int .u64 0, .int .u64 0, .int .u64 0] 36)).setRow w2.heap.size z := ⟨_, rfl⟩
    obtain ⟨L, hL⟩ : ∃ L, L = w2.heap.size := ⟨_, rfl⟩
    have K3 : Below w2.heap.size w2 w3 := by rw [hw3]; exact Below_setRow (below_alloc w2 _) (Nat.le_refl _) _
    have HB3 := Lib.hid (HB2.out.below K3)
    have HBL : Hid (Blk w3 L 36 z) := Lib.hid (by rw [hw3, hL]; exact setRow_heap _ _ _ _ _ _ (zero4 w2))
    have HGL : Hid (L ≠ g ∧ L ≠ w.heap.size) := Lib.hid (by have h1 := HG.out; have h2 := Blk.lt HB2.out.b; omega)
    rw [← hw3, ← hL]
    clear hw3 K3 hL
    have HE1 := Lib.hid he1
    clear he1
    have d1 := HB3.out.p.c1
    go_wp2
    clear d1
    refine wp_region_noPanic ?_
    refine wp_region_any (by kernel_rfl) ?_
    show wpAny _ _ _ _ _ _ _ w3.drew
    refine takeA (i := 0) (d := some 13) (v := ?v1) rfl rfl (by kernel_rfl) (by kernel_rfl) (by kernel_rfl) (fun _ _ _ h => h) (Or.inl ⟨by rfl, ?hy1⟩) ?rest1
    case hy1 => (intro w9; first | (go_simp; done) | (go_simp; with_reducible rfl))
    try simp only [Act.put, List.setIfInBounds_toArray, List.set_cons_zero, List.set_cons_succ]
    refine oneA (i := 1) (by kernel_rfl) ?_
    refine opA (d := some 14) rfl rfl (by rfl) (fun K hK => ?_)
    go_simp
    go_at_call 34
    refine (take_no hs (Nat.le_refl _) (nx_end (rst_size s)) HB3.out.p.drew1).mono ?_
    rintro e w4 ⟨rfl, p, o⟩
    have HB4 := Lib.hid ((HB3.out.below (below_draws w3 1)).next (Nat.le_refl _) HG.out p o)
    have HBL4 : Hid (Blk w4 L 36 z) := Lib.hid (Blk.only (w := w3.drew) HBL.out o HGL.out.1)
    clear p o
    refine hK.out _ _ ?_
    clear hK K
    try simp only [Act.put, List.setIfInBounds_toArray, List.set_cons_zero, List.set_cons_succ]
    refine takeA (i := 2) (d := some 15) (v := ?v2) rfl rfl (by kernel_rfl) (by kernel_rfl) (by kernel_rfl) (fun _ _ _ h => h) (Or.inl ⟨by rfl, ?hy2⟩) ?rest2
    case hy2 => (intro w9; first | (go_simp; done) | (go_simp; with_reducible rfl))
    try simp only [Act.put, List.setIfInBounds_toArray, List.set_cons_zero, List.set_cons_succ]
    refine takeA (i := 3) (d := some 16) (v := ?v3) rfl rfl (by kernel_rfl) (by kernel_rfl) (by kernel_rfl) (fun _ _ _ h => h) (Or.inl ⟨by rfl, ?hy3⟩) ?rest3
    case hy3 => (intro w9; first | (go_simp; done) | (go_simp; with_reducible rfl))
    try simp only [Act.put, List.setIfInBounds_toArray, List.set_cons_zero, List.set_cons_succ]
    refine takeA (i := 4) (d := some 17) (v := undef) rfl rfl (by kernel_rfl) (by kernel_rfl) (by kernel_rfl) (fun _ _ _ h => h) (Or.inr ⟨by rfl, rfl⟩) ?_
    try simp only [Act.put, List.setIfInBounds_toArray, List.set_cons_zero, List.set_cons_succ]
    refine takeA (i := 8) (d := some 21) (v := undef) rfl rfl (by kernel_rfl) (by kernel_rfl) (by kernel_rfl) (fun _ _ _ h => h) (Or.inr ⟨by rfl, rfl⟩) ?_
    try simp only [Act.put, List.setIfInBounds_toArray, List.set_cons_zero, List.set_cons_succ]
    refine takeA (i := 5) (d := some 18) (v := undef) rfl rfl (by kernel_rfl) (by kernel_rfl) (by kernel_rfl) (fun _ _ _ h => h) (Or.inr ⟨by rfl, rfl⟩) ?_
    try simp only [Act.put, List.setIfInBounds_toArray, List.set_cons_zero, List.set_cons_succ]
    refine takeA (i := 9) (d := some 22) (v := undef) rfl rfl (by kernel_rfl) (by kernel_rfl) (by kernel_rfl) (fun _ _ _ h => h) (Or.inr ⟨by rfl, rfl⟩) ?_
    try simp only [Act.put, List.setIfInBounds_toArray, List.set_cons_zero, List.set_cons_succ]
    refine takeA (i := 6) (d := some 19) (v := undef) rfl rfl (by kernel_rfl) (by kernel_rfl) (by kernel_rfl) (fun _ _ _ h => h) (Or.inr ⟨by rfl, rfl⟩) ?_
    try simp only [Act.put, List.setIfInBounds_toArray, List.set_cons_zero, List.set_cons_succ]
    refine takeA (i := 10) (d := some 23) (v := undef) rfl rfl (by kernel_rfl) (by kernel_rfl) (by kernel_rfl) (fun _ _ _ h => h) (Or.inr ⟨by rfl, rfl⟩) ?_
    try simp only [Act.put, List.setIfInBounds_toArray, List.set_cons_zero, List.set_cons_succ]
    refine takeA (i := 7) (d := some 20) (v := undef) rfl rfl (by kernel_rfl) (by kernel_rfl) (by kernel_rfl) (fun _ _ _ h => h) (Or.inr ⟨by rfl, rfl⟩) ?_
    try simp only [Act.put, List.setIfInBounds_toArray, List.set_cons_zero, List.set_cons_succ]
    refine takeA (i := 11) (d := some 24) (v := undef) rfl rfl (by kernel_rfl) (by kernel_rfl) (by kernel_rfl) (fun _ _ _ h => h) (Or.inr ⟨by rfl, rfl⟩) ?_
    try simp only [Act.put, List.setIfInBounds_toArray, List.set_cons_zero, List.set_cons_succ]
    refine takeA (i := 12) (d := some 25) (v := undef) rfl rfl (by kernel_rfl) (by kernel_rfl) (by kernel_rfl) (fun _ _ _ h => h) (Or.inr ⟨by rfl, rfl⟩) ?_
    try simp only [Act.put, List.setIfInBounds_toArray, List.set_cons_zero, List.set_cons_succ]
    refine takeA (i := 13) (d := some 26) (v := undef) rfl rfl (by kernel_rfl) (by kernel_rfl) (by kernel_rfl) (fun _ _ _ h => h) (Or.inr ⟨by rfl, rfl⟩) ?_
    try simp only [Act.put, List.setIfInBounds_toArray, List.set_cons_zero, List.set_cons_succ]
    refine takeA (i := 14) (d := some 27) (v := ?v14) rfl rfl (by kernel_rfl) (by kernel_rfl) (by kernel_rfl) (fun _ _ _ h => h) (Or.inl ⟨by rfl, ?hy14⟩) ?rest14
    case hy14 => (intro w9; first | (go_simp; done) | (go_simp; with_reducible rfl))
    try simp only [Act.put, List.setIfInBounds_toArray, List.set_cons_zero, List.set_cons_succ]
    refine wpAny_done (by kernel_rfl) ?_ _
    refine NoPanic.normal ?_
    simp only [Exit.then]
    go_wp2_with (first | refine wpList_load_row rfl 36 _ rfl L rfl _ _ _ _ HBL4.out Tryd.underlying36 rfl (fit Hz4.out) ?_ | (refine wpList_store_row rfl 36 _ _ rfl w.heap.size z rfl rfl _ _ HB4.out.b (fit Hz4.out) (Eq.trans (sv4 zero_set) Hz4.out.symm) Hz1.out ?_))
    refine bodyPost_ret (v := .agg z) (results_cell_row rfl _ _ w.heap.size 36 _ _ _ rfl (setRow_heap _ _ _ _ _ _ HB4.out.b) Tryd.underlying36 rfl (fit Hz4.out)) rfl ?_
    refine ⟨zero, by rw [HzE.out], ?_, only_row HB4.out.o (Nat.le_refl _) _⟩
    exact ⟨zero_set, HE1.out, par_row HB4.out.p (by have := HG.out; omega) _⟩
  | ok x r1 =>
    have hxs : isSet x.1 := by have := chr_all (c :: r); rw [hq] at this; exact this.1.1
    rw [hq] at HCH
    have HCC : Hid (∀ u, par u g s a 0 0 → Calls Tryd.prog 95 #[.pointer (some ⟨g, 0, none⟩)] u fun e w' => e = .returned (.agg (sv x.1)) ∧ (onlyO x.2 x.1 ∧ ∃ a1, a1 ≤ s.size ∧ rst s a1 = r1 ∧ par w' g s a1 0 0) ∧ Only (· = g) u w') := Lib.hid (fun u h => (HCH u h).mono fun e w' ⟨z, h1, ⟨_, h2, h3, a1, h5, h6, h7⟩, h4⟩ => ⟨by rw [h1, h2], ⟨by rw [← h2]; exact h3, a1, h5, h7, h6⟩, h4⟩)
    clear HCH hq
    obtain ⟨z, hz⟩ : ∃ z, z = sv x.1 := ⟨_, rfl⟩
    obtain ⟨hz4, hz1⟩ := set4 (hxs) hz
    have Hz4 := Lib.hid hz4
    have Hz1 := Lib.hid hz1
    have HzE := Lib.hid hz
    have HXS := Lib.hid hxs
    rw [← hz] at HCC
    clear hz hz4 hz1 hxs
    by_cases hm : ∃ r2, r1 = 45 :: r2
    · obtain ⟨r2, rfl⟩ := hm
      cases r2 with
      | nil =>
        go_enter Tryd.func88, Tryd.ntmps88
        go_upto_region 1 with fail
        rw [← hw0]
        clear hw0
        go_upto_region 2 with (first | (go_at_call 95; refine (HCC.out _ HB0.out.p).mono ?_; rintro e w2 ⟨rfl, ⟨ho1, a1, ha1, hr1, p⟩, o⟩; have HB2 := Lib.hid (HB0.out.next (Nat.le_refl _) HG.out p o); clear p o) | (refine wpList_store_row rfl 36 _ _ rfl w2.heap.size z rfl rfl _ _ (zero4 w2) (fit Hz4.out) (Eq.trans (sv4 zero_set) Hz4.out.symm) Hz1.out ?_))
        obtain ⟨w3, hw3⟩ : ∃ w3, w3 = (w2.alloc (.cells #[.int .u64 0, .int .u64 0, .int .u64 0, .int .u64 0] 36)).setRow w2.heap.size z := ⟨_, rfl⟩
        obtain ⟨L, hL⟩ : ∃ L, L = w2.heap.size := ⟨_, rfl⟩
        have K3 : Below w2.heap.size w2 w3 := by rw [hw3]; exact Below_setRow (below_alloc w2 _) (Nat.le_refl _) _
        have HB3 := Lib.hid (HB2.out.below K3)
        have HBL : Hid (Blk w3 L 36 z) := Lib.hid (by rw [hw3, hL]; exact setRow_heap _ _ _ _ _ _ (zero4 w2))
        have HGL : Hid (L ≠ g ∧ L ≠ w.heap.size) := Lib.hid (by have h1 := HG.out; have h2 := Blk.lt HB2.out.b; omega)
        rw [← hw3, ← hL]
        clear hw3 K3 hL
        have HO1 := Lib.hid ho1
        have HA1 := Lib.hid ha1
        have HR1 := Lib.hid hr1
        clear ho1 ha1 hr1
        have d1 := HB3.out.p.c1
        have HX : Hid (nxQ ⟨#[45]⟩ (rst s a1) = true) := Lib.hid (nx_yes in_45 HR1.out rfl)
        have he := rst_len s a1
        rw [HR1.out] at he
        have hqe : ((a1 : Int) + 1 == (s.size : Int)) = true := by simp at he ⊢; omega
        have HEE : Hid (a1 + 1 = s.size) := Lib.hid (by simp at he; omega)
        clear he
        go_wp2
        clear d1
        refine wp_region_noPanic ?_
        refine wp_region_any (by kernel_rfl) ?_
        show wpAny _ _ _ _ _ _ _ w3.drew
        refine takeA (i := 0) (d := some 13) (v := ?v15) rfl rfl (by kernel_rfl) (by kernel_rfl) (by kernel_rfl) (fun _ _ _ h => h) (Or.inl ⟨by rfl, ?hy15⟩) ?rest15
        case hy15 => (intro w9; first | (go_simp; done) | (go_simp; with_reducible rfl))
        try simp only [Act.put, List.setIfInBounds_toArray, List.set_cons_zero, List.set_cons_succ]
        refine oneA (i := 1) (by kernel_rfl) ?_
        refine opA (d := some 14) rfl rfl (by rfl) (fun K hK => ?_)
        go_simp
        go_at_call 34
        refine (take_yes hs HA1.out HX.out HB3.out.p.drew1).mono ?_
        rintro e w4 ⟨rfl, p, o⟩
        have HB4 := Lib.hid ((HB3.out.below (below_draws w3 1)).next (Nat.le_refl _) HG.out p o)
        have HBL4 : Hid (Blk w4 L 36 z) := Lib.hid (Blk.only (w := w3.drew) HBL.out o HGL.out.1)
        have d0 := HB4.out.p.c0
        have d1 : w4.cell? ⟨g, 1, none⟩ = some (.int .i64 ((a1 : Int) + 1)) := by have := HB4.out.p.c1; simpa using this
        clear p o
        refine hK.out _ _ ?_
        clear hK K
        try simp only [Act.put, List.setIfInBounds_toArray, List.set_cons_zero, List.set_cons_succ]
        refine takeA (i := 2) (d := some 15) (v := ?v16) rfl rfl (by kernel_rfl) (by kernel_rfl) (by kernel_rfl) (fun _ _ _ h => h) (Or.inl ⟨by rfl, ?hy16⟩) ?rest16
        case hy16 => (intro w9; first | (go_simp; done) | (go_simp; with_reducible rfl))
        try simp only [Act.put, List.setIfInBounds_toArray, List.set_cons_zero, List.set_cons_succ]
        refine takeA (i := 3) (d := some 16) (v := ?v17) rfl rfl (by kernel_rfl) (by kernel_rfl) (by kernel_rfl) (fun _ _ _ h => h) (Or.inl ⟨by rfl, ?hy17⟩) ?rest17
        case hy17 => (intro w9; first | (go_simp; done) | (go_simp; with_reducible rfl))
        try simp only [Act.put, List.setIfInBounds_toArray, List.set_cons_zero, List.set_cons_succ]
        refine takeA (i := 4) (d := some 17) (v := ?v18) rfl rfl (by kernel_rfl) (by kernel_rfl) (by kernel_rfl) (fun _ _ _ h => h) (Or.inl ⟨by rfl, ?hy18⟩) ?rest18
        case hy18 => (intro w9; first | (go_simp; done) | (go_simp; with_reducible rfl))
        try simp only [Act.put, List.setIfInBounds_toArray, List.set_cons_zero, List.set_cons_succ]
        refine takeA (i := 8) (d := some 21) (v := ?v19) rfl rfl (by kernel_rfl) (by kernel_rfl) (by kernel_rfl) (fun _ _ _ h => h) (Or.inl ⟨by rfl, ?hy19⟩) ?rest19
        case hy19 => (intro w9; first | (go_simp; done) | (go_simp; with_reducible rfl))
        try simp only [Act.put, List.setIfInBounds_toArray, List.set_cons_zero, List.set_cons_succ]
        refine takeA (i := 5) (d := some 18) (v := ?v20) rfl rfl (by kernel_rfl) (by kernel_rfl) (by kernel_rfl) (fun _ _ _ h => h) (Or.inl ⟨by rfl, ?hy20⟩) ?rest20
        case hy20 => (intro w9; first | (go_simp; done) | (go_simp; with_reducible rfl))
        try simp only [Act.put, List.setIfInBounds_toArray, List.set_cons_zero, List.set_cons_succ]
        refine takeA (i := 9) (d := some 22) (v := ?v21) rfl rfl (by kernel_rfl) (by kernel_rfl) (by kernel_rfl) (fun _ _ _ h => h) (Or.inl ⟨by rfl, ?hy21⟩) ?rest21
        case hy21 => (intro w9; first | (go_simp; done) | (go_simp; with_reducible rfl))
        try simp only [Act.put, List.setIfInBounds_toArray, List.set_cons_zero, List.set_cons_succ]
        refine takeA (i := 6) (d := some 19) (v := ?v22) rfl rfl (by kernel_rfl) (by kernel_rfl) (by kernel_rfl) (fun _ _ _ h => h) (Or.inl ⟨by rfl, ?hy22⟩) ?rest22
        case hy22 => (intro w9; first | (go_simp; done) | (go_simp; with_reducible rfl))
        try simp only [Act.put, List.setIfInBounds_toArray, List.set_cons_zero, List.set_cons_succ]
        refine takeA (i := 10) (d := some 23) (v := ?v23) rfl rfl (by kernel_rfl) (by kernel_rfl) (by kernel_rfl) (fun _ _ _ h => h) (Or.inl ⟨by rfl, ?hy23⟩) ?rest23
        case hy23 => (intro w9; first | (go_simp; done) | (go_simp; with_reducible rfl))
        try simp only [Act.put, List.setIfInBounds_toArray, List.set_cons_zero, List.set_cons_succ]
        refine twoA (i := 7) (j := 11) (by kernel_rfl) ?_ ?_
        · skip
          refine opA (d := some 20) rfl rfl (by rfl) (fun K hK => ?_)
          go_simp
          refine hK.out _ _ ?_
          clear hK K
          try simp only [Act.put, List.setIfInBounds_toArray, List.set_cons_zero, List.set_cons_succ]
          refine oneA (i := 11) (by kernel_rfl) ?_
          refine opA (d := some 24) rfl rfl (by rfl) (fun K hK => ?_)
          go_simp
          refine hK.out _ _ ?_
          clear hK K
          try simp only [Act.put, List.setIfInBounds_toArray, List.set_cons_zero, List.set_cons_succ]
          refine takeA (i := 12) (d := some 25) (v := ?v24) rfl rfl (by kernel_rfl) (by kernel_rfl) (by kernel_rfl) (fun _ _ _ h => h) (Or.inl ⟨by rfl, ?hy24⟩) ?rest24
          case hy24 => (intro w9; first | (go_simp; done) | (go_simp; with_reducible rfl))
          try simp only [Act.put, List.setIfInBounds_toArray, List.set_cons_zero, List.set_cons_succ]
          refine takeA (i := 13) (d := some 26) (v := ?v25) rfl rfl (by kernel_rfl) (by kernel_rfl) (by kernel_rfl) (fun _ _ _ h => h) (Or.inl ⟨by rfl, ?hy25⟩) ?rest25
          case hy25 => (intro w9; first | (go_simp; done) | (go_simp; with_reducible rfl))
          try simp only [Act.put, List.setIfInBounds_toArray, List.set_cons_zero, List.set_cons_succ]
          refine takeA (i := 14) (d := some 27) (v := ?v26) rfl rfl (by kernel_rfl) (by kernel_rfl) (by kernel_rfl) (fun _ _ _ h => h) (Or.inl ⟨by rfl, ?hy26⟩) ?rest26
          case hy26 => (intro w9; first | (go_simp; done) | (go_simp; with_reducible rfl))
          try simp only [Act.put, List.setIfInBounds_toArray, List.set_cons_zero, List.set_cons_succ]
          refine wpAny_done (by kernel_rfl) ?_ _
          refine NoPanic.normal ?_
          clear d0 d1
          simp only [Exit.then]
          go_wp2_with (first | refine wpList_load_row rfl 36 _ rfl L rfl _ _ _ _ HBL4.out Tryd.underlying36 rfl (fit Hz4.out) ?_ | (refine wpList_store_row rfl 36 _ _ rfl w.heap.size z rfl rfl _ _ HB4.out.b (fit Hz4.out) (Eq.trans (sv4 zero_set) Hz4.out.symm) Hz1.out ?_))
          refine bodyPost_ret (v := .agg z) (results_cell_row rfl _ _ w.heap.size 36 _ _ _ rfl (setRow_heap _ _ _ _ _ _ HB4.out.b) Tryd.underlying36 rfl (fit Hz4.out)) rfl ?_
          refine ⟨x.1, by rw [HzE.out], ?_, only_row HB4.out.o (Nat.le_refl _) _⟩
          exact ⟨HXS.out, rfl, a1 + 1, by have := HEE.out; omega, par_row HB4.out.p (by have := HG.out; omega) _, rst_nil (by have := HEE.out; omega)⟩
        · skip
          refine opA (d := some 24) rfl rfl (by rfl) (fun K hK => ?_)
          go_simp
          refine hK.out _ _ ?_
          clear hK K
          try simp only [Act.put, List.setIfInBounds_toArray, List.set_cons_zero, List.set_cons_succ]
          refine takeA (i := 12) (d := some 25) (v := ?v27) rfl rfl (by kernel_rfl) (by kernel_rfl) (by kernel_rfl) (fun _ _ _ h => h) (Or.inl ⟨by rfl, ?hy27⟩) ?rest27
          case hy27 => (intro w9; first | (go_simp; done) | (go_simp; with_reducible rfl))
          try simp only [Act.put, List.setIfInBounds_toArray, List.set_cons_zero, List.set_cons_succ]
          refine oneA (i := 7) (by kernel_rfl) ?_
          refine opA (d := some 20) rfl rfl (by rfl) (fun K hK => ?_)
          go_simp
          refine hK.out _ _ ?_
          clear hK K
          try simp only [Act.put, List.setIfInBounds_toArray, List.set_cons_zero, List.set_cons_succ]
          refine takeA (i := 13) (d := some 26) (v := ?v28) rfl rfl (by kernel_rfl) (by kernel_rfl) (by kernel_rfl) (fun _ _ _ h => h) (Or.inl ⟨by rfl, ?hy28⟩) ?rest28
          case hy28 => (intro w9; first | (go_simp; done) | (go_simp; with_reducible rfl))
          try simp only [Act.put, List.setIfInBounds_toArray, List.set_cons_zero, List.set_cons_succ]
          refine takeA (i := 14) (d := some 27) (v := ?v29) rfl rfl (by kernel_rfl) (by kernel_rfl) (by kernel_rfl) (fun _ _ _ h => h) (Or.inl ⟨by rfl, ?hy29⟩) ?rest29
          case hy29 => (intro w9; first | (go_simp; done) | (go_simp; with_reducible rfl))
          try simp only [Act.put, List.setIfInBounds_toArray, List.set_cons_zero, List.set_cons_succ]
          refine wpAny_done (by kernel_rfl) ?_ _
          refine NoPanic.normal ?_
          clear d0 d1
          simp only [Exit.then]
          go_wp2_with (first | refine wpList_load_row rfl 36 _ rfl L rfl _ _ _ _ HBL4.out Tryd.underlying36 rfl (fit Hz4.out) ?_ | (refine wpList_store_row rfl 36 _ _ rfl w.heap.size z rfl rfl _ _ HB4.out.b (fit Hz4.out) (Eq.trans (sv4 zero_set) Hz4.out.symm) Hz1.out ?_))
          refine bodyPost_ret (v := .agg z) (results_cell_row rfl _ _ w.heap.size 36 _ _ _ rfl (setRow_heap _ _ _ _ _ _ HB4.out.b) Tryd.underlying36 rfl (fit Hz4.out)) rfl ?_
          refine ⟨x.1, by rw [HzE.out], ?_, only_row HB4.out.o (Nat.le_refl _) _⟩
          exact ⟨HXS.out, rfl, a1 + 1, by have := HEE.out; omega, par_row HB4.out.p (by have := HG.out; omega) _, rst_nil (by have := HEE.out; omega)⟩
      | cons d r3 =>
        have HBy1 : Hid (∀ w, Calls Tryd.prog 43 #[.agg z] w fun e w' => e = .returned (.string ⟨(bts x.1).toArray⟩) ∧ Below w.heap.size w w') := Lib.hid (fun w => by rw [HzE.out]; exact Bytes_any HXS.out w)
        have HN1 : Hid ((⟨(bts x.1).toArray⟩ : ByteArray).size = (byt x.1).length) := Lib.hid (by show (bts x.1).toArray.size = _; rw [List.size_toArray, bts_len])
        have HF0 : Hid (∀ b, byt x.1 = [b] → b < 256 → bt ⟨(bts x.1).toArray⟩ 0 = (b : Int)) := Lib.hid (fun b h hb => bt_one h hb)
        obtain ⟨F1, hF1⟩ : ∃ F1 : ByteArray, F1 = ⟨(bts x.1).toArray⟩ := ⟨_, rfl⟩
        rw [← hF1] at HBy1 HN1 HF0
        clear hF1
        have hb1 := get_bt F1
        cases hq2 : chP (d :: r3) with
        | err e2 k2 =>
          have HC2 : Hid (∀ u a1, par u g s (a1 + 1) 0 0 → rst s (a1 + 1) = d :: r3 → Calls Tryd.prog 95 #[.pointer (some ⟨g, 0, none⟩)] u fun e w' => e = .returned (.agg (sv zero)) ∧ (e2 ≠ 0 ∧ par w' g s s.size (e2 : Int) ((s.size - k2 : Nat) : Int)) ∧ Only (· = g) u w') := Lib.hid (fun u a1 h hr => (char_any hs hr (Lib.hid h)).mono fun e w' ⟨z, h1, h2, h4⟩ => by rw [hq2] at h2; exact ⟨by rw [h1, h2.2.1], h2.2.2, h4⟩)
          have HT : Hid (∀ (z : List Nat) (u : World), dead u g s e2 k2 → itmB s g x (45 :: d :: r3) z u) := Lib.hid (fun z u h => by
            show (if d = 93 then dead u g s 15 (r3.length + 1) else outS (chrP (d :: r3)) _ _)
            unfold chP at hq2; dsimp only at hq2
            by_cases h93 : d = 93
            · rw [if_pos h93] at hq2 ⊢; injection hq2 with q1 q2; rw [q1, q2]; exact h
            · rw [if_neg h93] at hq2 ⊢; rw [hq2]; exact h)
          have HBy2 : Hid (∀ w, Calls Tryd.prog 43 #[.agg (sv zero)] w fun e w' => e = .returned (.string ⟨#[]⟩) ∧ Below w.heap.size w w') := Lib.hid (fun w => by have := Bytes_any zero_set w; rw [bts_zero] at this; exact this)
          clear hq2
          by_cases hn1 : F1.size = 1
          · have hn1a : ((F1.size : Int) != 1) = false := by rw [hn1]; rfl
            clear HF0 hn1
            go_enter Tryd.func88, Tryd.ntmps88
            go_upto_region 1 with fail
            rw [← hw0]
            clear hw0
            go_upto_region 2 with (first | (go_at_call 95; refine (HCC.out _ HB0.out.p).mono ?_; rintro e w2 ⟨rfl, ⟨ho1, a1, ha1, hr1, p⟩, o⟩; have HB2 := Lib.hid (HB0.out.next (Nat.le_refl _) HG.out p o); clear p o) | (refine wpList_store_row rfl 36 _ _ rfl w2.heap.size z rfl rfl _ _ (zero4 w2) (fit Hz4.out) (Eq.trans (sv4 zero_set) Hz4.out.symm) Hz1.out ?_))
            obtain ⟨w3, hw3⟩ : ∃ w3, w3 = (w2.alloc (.cells #[.int .u64 0, .int .u64 0, .int .u64 0, .int .u64 0] 36)).setRow w2.heap.size z := ⟨_, rfl⟩
            obtain ⟨L, hL⟩ : ∃ L, L = w2.heap.size := ⟨_, rfl⟩
            have K3 : Below w2.heap.size w2 w3 := by rw [hw3]; exact Below_setRow (below_alloc w2 _) (Nat.le_refl _) _
            have HB3 := Lib.hid (HB2.out.below K3)
            have HBL : Hid (Blk w3 L 36 z) := Lib.hid (by rw [hw3, hL]; exact setRow_heap _ _ _ _ _ _ (zero4 w2))
            have HGL : Hid (L ≠ g ∧ L ≠ w.heap.size) := Lib.hid (by have h1 := HG.out; have h2 := Blk.lt HB2.out.b; omega)
            rw [← hw3, ← hL]
            clear hw3 K3 hL
            have HO1 := Lib.hid ho1
            have HA1 := Lib.hid ha1
            have HR1 := Lib.hid hr1
            clear ho1 ha1 hr1
            have d1 := HB3.out.p.c1
            have HX : Hid (nxQ ⟨#[45]⟩ (rst s a1) = true) := Lib.hid (nx_yes in_45 HR1.out rfl)
            have he := rst_len s a1
            rw [HR1.out] at he
            have hqe : ((a1 : Int) + 1 == (s.size : Int)) = false := by simp at he ⊢; omega
            have HEE : Hid (a1 + (r3.length + 2) = s.size) := Lib.hid (by simp at he; omega)
            clear he
            have HR2 : Hid (rst s (a1 + 1) = d :: r3) := Lib.hid (rst_next HR1.out).2.2.2
            go_wp2
            clear d1
            refine wp_region_noPanic ?_
            refine wp_region_any (by kernel_rfl) ?_
            show wpAny _ _ _ _ _ _ _ w3.drew
            refine takeA (i := 0) (d := some 13) (v := ?v30) rfl rfl (by kernel_rfl) (by kernel_rfl) (by kernel_rfl) (fun _ _ _ h => h) (Or.inl ⟨by rfl, ?hy30⟩) ?rest30
            case hy30 => (intro w9; first | (go_simp; done) | (go_simp; with_reducible rfl))
            try simp only [Act.put, List.setIfInBounds_toArray, List.set_cons_zero, List.set_cons_succ]
            refine oneA (i := 1) (by kernel_rfl) ?_
            refine opA (d := some 14) rfl rfl (by rfl) (fun K hK => ?_)
            go_simp
            go_at_call 34
            refine (take_yes hs HA1.out HX.out HB3.out.p.drew1).mono ?_
            rintro e w4 ⟨rfl, p, o⟩
            have HB4 := Lib.hid ((HB3.out.below (below_draws w3 1)).next (Nat.le_refl _) HG.out p o)
            have HBL4 : Hid (Blk w4 L 36 z) := Lib.hid (Blk.only (w := w3.drew) HBL.out o HGL.out.1)
            have d0 := HB4.out.p.c0
            have d1 : w4.cell? ⟨g, 1, none⟩ = some (.int .i64 ((a1 : Int) + 1)) := by have := HB4.out.p.c1; simpa using this
            clear p o
            refine hK.out _ _ ?_
            clear hK K
            try simp only [Act.put, List.setIfInBounds_toArray, List.set_cons_zero, List.set_cons_succ]
            refine takeA (i := 2) (d := some 15) (v := ?v31) rfl rfl (by kernel_rfl) (by kernel_rfl) (by kernel_rfl) (fun _ _ _ h => h) (Or.inl ⟨by rfl, ?hy31⟩) ?rest31
            case hy31 => (intro w9; first | (go_simp; done) | (go_simp; with_reducible rfl))
            try simp only [Act.put, List.setIfInBounds_toArray, List.set_cons_zero, List.set_cons_succ]
            refine takeA (i := 3) (d := some 16) (v := ?v32) rfl rfl (by kernel_rfl) (by kernel_rfl) (by kernel_rfl) (fun _ _ _ h => h) (Or.inl ⟨by rfl, ?hy32⟩) ?rest32
            case hy32 => (intro w9; first | (go_simp; done) | (go_simp; with_reducible rfl))
            try simp only [Act.put, List.setIfInBounds_toArray, List.set_cons_zero, List.set_cons_succ]
            refine takeA (i := 4) (d := some 17) (v := ?v33) rfl rfl (by kernel_rfl) (by kernel_rfl) (by kernel_rfl) (fun _ _ _ h => h) (Or.inl ⟨by rfl, ?hy33⟩) ?rest33
            case hy33 => (intro w9; first | (go_simp; done) | (go_simp; with_reducible rfl))
            try simp only [Act.put, List.setIfInBounds_toArray, List.set_cons_zero, List.set_cons_succ]
            refine takeA (i := 8) (d := some 21) (v := ?v34) rfl rfl (by kernel_rfl) (by kernel_rfl) (by kernel_rfl) (fun _ _ _ h => h) (Or.inl ⟨by rfl, ?hy34⟩) ?rest34
            case hy34 => (intro w9; first | (go_simp; done) | (go_simp; with_reducible rfl))
            try simp only [Act.put, List.setIfInBounds_toArray, List.set_cons_zero, List.set_cons_succ]
            refine takeA (i := 5) (d := some 18) (v := ?v35) rfl rfl (by kernel_rfl) (by kernel_rfl) (by kernel_rfl) (fun _ _ _ h => h) (Or.inl ⟨by rfl, ?hy35⟩) ?rest35
            case hy35 => (intro w9; first | (go_simp; done) | (go_simp; with_reducible rfl))
            try simp only [Act.put, List.setIfInBounds_toArray, List.set_cons_zero, List.set_cons_succ]
            refine takeA (i := 9) (d := some 22) (v := ?v36) rfl rfl (by kernel_rfl) (by kernel_rfl) (by kernel_rfl) (fun _ _ _ h => h) (Or.inl ⟨by rfl, ?hy36⟩) ?rest36
            case hy36 => (intro w9; first | (go_simp; done) | (go_simp; with_reducible rfl))
            try simp only [Act.put, List.setIfInBounds_toArray, List.set_cons_zero, List.set_cons_succ]
            refine takeA (i := 6) (d := some 19) (v := ?v37) rfl rfl (by kernel_rfl) (by kernel_rfl) (by kernel_rfl) (fun _ _ _ h => h) (Or.inl ⟨by rfl, ?hy37⟩) ?rest37
            case hy37 => (intro w9; first | (go_simp; done) | (go_simp; with_reducible rfl))
            try simp only [Act.put, List.setIfInBounds_toArray, List.set_cons_zero, List.set_cons_succ]
            refine takeA (i := 10) (d := some 23) (v := ?v38) rfl rfl (by kernel_rfl) (by kernel_rfl) (by kernel_rfl) (fun _ _ _ h => h) (Or.inl ⟨by rfl, ?hy38⟩) ?rest38
            case hy38 => (intro w9; first | (go_simp; done) | (go_simp; with_reducible rfl))
            try simp only [Act.put, List.setIfInBounds_toArray, List.set_cons_zero, List.set_cons_succ]
            refine twoA (i := 7) (j := 11) (by kernel_rfl) ?_ ?_
            · skip
              refine opA (d := some 20) rfl rfl (by rfl) (fun K hK => ?_)
              go_simp
              refine hK.out _ _ ?_
              clear hK K
              try simp only [Act.put, List.setIfInBounds_toArray, List.set_cons_zero, List.set_cons_succ]
              refine oneA (i := 11) (by kernel_rfl) ?_
              refine opA (d := some 24) rfl rfl (by rfl) (fun K hK => ?_)
              go_simp
              refine hK.out _ _ ?_
              clear hK K
              try simp only [Act.put, List.setIfInBounds_toArray, List.set_cons_zero, List.set_cons_succ]
              refine takeA (i := 12) (d := some 25) (v := ?v39) rfl rfl (by kernel_rfl) (by kernel_rfl) (by kernel_rfl) (fun _ _ _ h => h) (Or.inl ⟨by rfl, ?hy39⟩) ?rest39
              case hy39 => (intro w9; first | (go_simp; done) | (go_simp; with_reducible rfl))
              try simp only [Act.put, List.setIfInBounds_toArray, List.set_cons_zero, List.set_cons_succ]
              refine takeA (i := 13) (d := some 26) (v := ?v40) rfl rfl (by kernel_rfl) (by kernel_rfl) (by kernel_rfl) (fun _ _ _ h => h) (Or.inl ⟨by rfl, ?hy40⟩) ?rest40
              case hy40 => (intro w9; first | (go_simp; done) | (go_simp; with_reducible rfl))
              try simp only [Act.put, List.setIfInBounds_toArray, List.set_cons_zero, List.set_cons_succ]
              refine takeA (i := 14) (d := some 27) (v := ?v41) rfl rfl (by kernel_rfl) (by kernel_rfl) (by kernel_rfl) (fun _ _ _ h => h) (Or.inl ⟨by rfl, ?hy41⟩) ?rest41
              case hy41 => (intro w9; first | (go_simp; done) | (go_simp; with_reducible rfl))
              try simp only [Act.put, List.setIfInBounds_toArray, List.set_cons_zero, List.set_cons_succ]
              refine wpAny_done (by kernel_rfl) ?_ _
              refine NoPanic.normal ?_
              clear d0 d1
              simp only [Exit.then]
              go_wp2_with (first | refine wpList_load_row rfl 36 _ rfl L rfl _ _ _ _ HBL4.out Tryd.underlying36 rfl (fit Hz4.out) ?_ | (go_at_call 43; (with_reducible refine (HBy1.out _).mono ?_); rintro e w5 ⟨rfl, k5⟩; have HB5 := Lib.hid (HB4.out.below k5); clear k5) | (go_at_call 95; refine (HC2.out _ _ HB5.out.p HR2.out).mono ?_; rintro e w6 ⟨rfl, ⟨hx6, p⟩, o⟩; have HB6 := Lib.hid (HB5.out.next (Nat.le_refl _) HG.out p o); have HX6 := Lib.hid hx6; clear p o hx6) | (go_at_call 43; (with_reducible refine (HBy2.out _).mono ?_); rintro e w7 ⟨rfl, k7⟩; have HB7 := Lib.hid (HB6.out.below k7); clear k7))
              go_quiet (fail)
              simp only [Exit.then]
              obtain ⟨w8, hw8⟩ : ∃ w8, w8 = w7.drewN nq := ⟨_, rfl⟩
              have HB8 := Lib.hid (show bS w w8 g s _ _ _ w.heap.size 36 (sv zero) from by rw [hw8]; exact HB7.out.below (below_draws _ _))
              try rw [← hw8]
              clear hw8
              go_wp2_with (first | (go_at_call 23; refine (fail_late _ _ (by have := HX6.out; omega) HB8.out.p).mono ?_; rintro e w9 ⟨rfl, p, o⟩; have HB9 := Lib.hid (HB8.out.next (Nat.le_refl _) HG.out p o); clear p o) | (refine wpList_store_row rfl 36 _ _ rfl w.heap.size (sv zero) rfl rfl _ _ HB9.out.b (fit (sv4 zero_set)) rfl (sv_one _) ?_))
              refine bodyPost_ret (v := .agg (sv zero)) (results_cell_row rfl _ _ w.heap.size 36 _ _ _ rfl (setRow_heap _ _ _ _ _ _ HB9.out.b) Tryd.underlying36 rfl (fit (sv4 zero_set))) rfl ?_
              refine ⟨zero, rfl, ⟨zero_set, ?_⟩, only_row HB9.out.o (Nat.le_refl _) _⟩
              exact HT.out _ _ ⟨HX6.out, par_row HB9.out.p (by have := HG.out; omega) _⟩
            · skip
              refine opA (d := some 24) rfl rfl (by rfl) (fun K hK => ?_)
              go_simp
              refine hK.out _ _ ?_
              clear hK K
              try simp only [Act.put, List.setIfInBounds_toArray, List.set_cons_zero, List.set_cons_succ]
              refine takeA (i := 12) (d := some 25) (v := ?v42) rfl rfl (by kernel_rfl) (by kernel_rfl) (by kernel_rfl) (fun _ _ _ h => h) (Or.inl ⟨by rfl, ?hy42⟩) ?rest42
              case hy42 => (intro w9; first | (go_simp; done) | (go_simp; with_reducible rfl))
              try simp only [Act.put, List.setIfInBounds_toArray, List.set_cons_zero, List.set_cons_succ]
              refine oneA (i := 7) (by kernel_rfl) ?_
              refine opA (d := some 20) rfl rfl (by rfl) (fun K hK => ?_)
              go_simp
              refine hK.out _ _ ?_
              clear hK K
              try simp only [Act.put, List.setIfInBounds_toArray, List.set_cons_zero, List.set_cons_succ]
              refine takeA (i := 13) (d := some 26) (v := ?v43) rfl rfl (by kernel_rfl) (by kernel_rfl) (by kernel_rfl) (fun _ _ _ h => h) (Or.inl ⟨by rfl, ?hy43⟩) ?rest43
              case hy43 => (intro w9; first | (go_simp; done) | (go_simp; with_reducible rfl))
              try simp only [Act.put, List.setIfInBounds_toArray, List.set_cons_zero, List.set_cons_succ]
              refine takeA (i := 14) (d := some 27) (v := ?v44) rfl rfl (by kernel_rfl) (by kernel_rfl) (by kernel_rfl) (fun _ _ _ h => h) (Or.inl ⟨by rfl, ?hy44⟩) ?rest44
              case hy44 => (intro w9; first | (go_simp; done) | (go_simp; with_reducible rfl))
              try simp only [Act.put, List.setIfInBounds_toArray, List.set_cons_zero, List.set_cons_succ]
              refine wpAny_done (by kernel_rfl) ?_ _
              refine NoPanic.normal ?_
              clear d0 d1
              simp only [Exit.then]
              go_wp2_with (first | refine wpList_load_row rfl 36 _ rfl L rfl _ _ _ _ HBL4.out Tryd.underlying36 rfl (fit Hz4.out) ?_ | (go_at_call 43; (with_reducible refine (HBy1.out _).mono ?_); rintro e w5 ⟨rfl, k5⟩; have HB5 := Lib.hid (HB4.out.below k5); clear k5) | (go_at_call 95; refine (HC2.out _ _ HB5.out.p HR2.out).mono ?_; rintro e w6 ⟨rfl, ⟨hx6, p⟩, o⟩; have HB6 := Lib.hid (HB5.out.next (Nat.le_refl _) HG.out p o); have HX6 := Lib.hid hx6; clear p o hx6) | (go_at_call 43; (with_reducible refine (HBy2.out _).mono ?_); rintro e w7 ⟨rfl, k7⟩; have HB7 := Lib.hid (HB6.out.below k7); clear k7))
              go_quiet (fail)
              simp only [Exit.then]
              obtain ⟨w8, hw8⟩ : ∃ w8, w8 = w7.drewN nq := ⟨_, rfl⟩
              have HB8 := Lib.hid (show bS w w8 g s _ _ _ w.heap.size 36 (sv zero) from by rw [hw8]; exact HB7.out.below (below_draws _ _))
              try rw [← hw8]
              clear hw8
              go_wp2_with (first | (go_at_call 23; refine (fail_late _ _ (by have := HX6.out; omega) HB8.out.p).mono ?_; rintro e w9 ⟨rfl, p, o⟩; have HB9 := Lib.hid (HB8.out.next (Nat.le_refl _) HG.out p o); clear p o) | (refine wpList_store_row rfl 36 _ _ rfl w.heap.size (sv zero) rfl rfl _ _ HB9.out.b (fit (sv4 zero_set)) rfl (sv_one _) ?_))
              refine bodyPost_ret (v := .agg (sv zero)) (results_cell_row rfl _ _ w.heap.size 36 _ _ _ rfl (setRow_heap _ _ _ _ _ _ HB9.out.b) Tryd.underlying36 rfl (fit (sv4 zero_set))) rfl ?_
              refine ⟨zero, rfl, ⟨zero_set, ?_⟩, only_row HB9.out.o (Nat.le_refl _) _⟩
              exact HT.out _ _ ⟨HX6.out, par_row HB9.out.p (by have := HG.out; omega) _⟩
          · have hn1a : ((F1.size : Int) != 1) = true := by simp; omega
            clear HF0 hn1
            go_enter Tryd.func88, Tryd.ntmps88
            go_upto_region 1 with fail
            rw [← hw0]
            clear hw0
            go_upto_region 2 with (first | (go_at_call 95; refine (HCC.out _ HB0.out.p).mono ?_; rintro e w2 ⟨rfl, ⟨ho1, a1, ha1, hr1, p⟩, o⟩; have HB2 := Lib.hid (HB0.out.next (Nat.le_refl _) HG.out p o); clear p o) | (refine wpList_store_row rfl 36 _ _ rfl w2.heap.size z rfl rfl _ _ (zero4 w2) (fit Hz4.out) (Eq.trans (sv4 zero_set) Hz4.out.symm) Hz1.out ?_))
            obtain ⟨w3, hw3⟩ : ∃ w3, w3 = (w2.alloc (.cells #[.int .u64 0, .int .u64 0, .int .u64 0, .int .u64 0] 36)).setRow w2.heap.size z := ⟨_, rfl⟩
            obtain ⟨L, hL⟩ : ∃ L, L = w2.heap.size := ⟨_, rfl⟩
            have K3 : Below w2.heap.size w2 w3 := by rw [hw3]; exact Below_setRow (below_alloc w2 _) (Nat.le_refl _) _
            have HB3 := Lib.hid (HB2.out.below K3)
            have HBL : Hid (Blk w3 L 36 z) := Lib.hid (by rw [hw3, hL]; exact setRow_heap _ _ _ _ _ _ (zero4 w2))
            have HGL : Hid (L ≠ g ∧ L ≠ w.heap.size) := Lib.hid (by have h1 := HG.out; have h2 := Blk.lt HB2.out.b; omega)
            rw [← hw3, ← hL]
            clear hw3 K3 hL
            have HO1 := Lib.hid ho1
            have HA1 := Lib.hid ha1
            have HR1 := Lib.hid hr1
            clear ho1 ha1 hr1
            have d1 := HB3.out.p.c1
            have HX : Hid (nxQ ⟨#[45]⟩ (rst s a1) = true) := Lib.hid (nx_yes in_45 HR1.out rfl)
            have he := rst_len s a1
            rw [HR1.out] at he
            have hqe : ((a1 : Int) + 1 == (s.size : Int)) = false := by simp at he ⊢; omega
            have HEE : Hid (a1 + (r3.length + 2) = s.size) := Lib.hid (by simp at he; omega)
            clear he
            have HR2 : Hid (rst s (a1 + 1) = d :: r3) := Lib.hid (rst_next HR1.out).2.2.2
            go_wp2
            clear d1
            refine wp_region_noPanic ?_
            refine wp_region_any (by kernel_rfl) ?_
            show wpAny _ _ _ _ _ _ _ w3.drew
            refine takeA (i := 0) (d := some 13) (v := ?v45) rfl rfl (by kernel_rfl) (by kernel_rfl) (by kernel_rfl) (fun _ _ _ h => h) (Or.inl ⟨by rfl, ?hy45⟩) ?rest45
            case hy45 => (intro w9; first | (go_simp; done) | (go_simp; with_reducible rfl))
            try simp only [Act.put, List.setIfInBounds_toArray, List.set_cons_zero, List.set_cons_succ]
            refine oneA (i := 1) (by kernel_rfl) ?_
            refine opA (d := some 14) rfl rfl (by rfl) (fun K hK => ?_)
            go_simp
            go_at_call 34
            refine (take_yes hs HA1.out HX.out HB3.out.p.drew1).mono ?_
            rintro e w4 ⟨rfl, p, o⟩
            have HB4 := Lib.hid ((HB3.out.below (below_draws w3 1)).next (Nat.le_refl _) HG.out p o)
            have HBL4 : Hid (Blk w4 L 36 z) := Lib.hid (Blk.only (w := w3.drew) HBL.out o HGL.out.1)
            have d0 := HB4.out.p.c0
            have d1 : w4.cell? ⟨g, 1, none⟩ = some (.int .i64 ((a1 : Int) + 1)) := by have := HB4.out.p.c1; simpa using this
            clear p o
            refine hK.out _ _ ?_
            clear hK K
            try simp only [Act.put, List.setIfInBounds_toArray, List.set_cons_zero, List.set_cons_succ]
            refine takeA (i := 2) (d := some 15) (v := ?v46) rfl rfl (by kernel_rfl) (by kernel_rfl) (by kernel_rfl) (fun _ _ _ h => h) (Or.inl ⟨by rfl, ?hy46⟩) ?rest46
            case hy46 => (intro w9; first | (go_simp; done) | (go_simp; with_reducible rfl))
            try simp only [Act.put, List.setIfInBounds_toArray, List.set_cons_zero, List.set_cons_succ]
            refine takeA (i := 3) (d := some 16) (v := ?v47) rfl rfl (by kernel_rfl) (by kernel_rfl) (by kernel_rfl) (fun _ _ _ h => h) (Or.inl ⟨by rfl, ?hy47⟩) ?rest47
            case hy47 => (intro w9; first | (go_simp; done) | (go_simp; with_reducible rfl))
            try simp only [Act.put, List.setIfInBounds_toArray, List.set_cons_zero, List.set_cons_succ]
            refine takeA (i := 4) (d := some 17) (v := ?v48) rfl rfl (by kernel_rfl) (by kernel_rfl) (by kernel_rfl) (fun _ _ _ h => h) (Or.inl ⟨by rfl, ?hy48⟩) ?rest48
            case hy48 => (intro w9; first | (go_simp; done) | (go_simp; with_reducible rfl))
            try simp only [Act.put, List.setIfInBounds_toArray, List.set_cons_zero, List.set_cons_succ]
            refine takeA (i := 8) (d := some 21) (v := ?v49) rfl rfl (by kernel_rfl) (by kernel_rfl) (by kernel_rfl) (fun _ _ _ h => h) (Or.inl ⟨by rfl, ?hy49⟩) ?rest49
            case hy49 => (intro w9; first | (go_simp; done) | (go_simp; with_reducible rfl))
            try simp only [Act.put, List.setIfInBounds_toArray, List.set_cons_zero, List.set_cons_succ]
            refine takeA (i := 5) (d := some 18) (v := ?v50) rfl rfl (by kernel_rfl) (by kernel_rfl) (by kernel_rfl) (fun _ _ _ h => h) (Or.inl ⟨by rfl, ?hy50⟩) ?rest50
            case hy50 => (intro w9; first | (go_simp; done) | (go_simp; with_reducible rfl))
            try simp only [Act.put, List.setIfInBounds_toArray, List.set_cons_zero, List.set_cons_succ]
            refine takeA (i := 9) (d := some 22) (v := ?v51) rfl rfl (by kernel_rfl) (by kernel_rfl) (by kernel_rfl) (fun _ _ _ h => h) (Or.inl ⟨by rfl, ?hy51⟩) ?rest51
            case hy51 => (intro w9; first | (go_simp; done) | (go_simp; with_reducible rfl))
            try simp only [Act.put, List.setIfInBounds_toArray, List.set_cons_zero, List.set_cons_succ]
            refine takeA (i := 6) (d := some 19) (v := ?v52) rfl rfl (by kernel_rfl) (by kernel_rfl) (by kernel_rfl) (fun _ _ _ h => h) (Or.inl ⟨by rfl, ?hy52⟩) ?rest52
            case hy52 => (intro w9; first | (go_simp; done) | (go_simp; with_reducible rfl))
            try simp only [Act.put, List.setIfInBounds_toArray, List.set_cons_zero, List.set_cons_succ]
            refine takeA (i := 10) (d := some 23) (v := ?v53) rfl rfl (by kernel_rfl) (by kernel_rfl) (by kernel_rfl) (fun _ _ _ h => h) (Or.inl ⟨by rfl, ?hy53⟩) ?rest53
            case hy53 => (intro w9; first | (go_simp; done) | (go_simp; with_reducible rfl))
            try simp only [Act.put, List.setIfInBounds_toArray, List.set_cons_zero, List.set_cons_succ]
            refine twoA (i := 7) (j := 11) (by kernel_rfl) ?_ ?_
            · skip
              refine opA (d := some 20) rfl rfl (by rfl) (fun K hK => ?_)
              go_simp
              refine hK.out _ _ ?_
              clear hK K
              try simp only [Act.put, List.setIfInBounds_toArray, List.set_cons_zero, List.set_cons_succ]
              refine oneA (i := 11) (by kernel_rfl) ?_
              refine opA (d := some 24) rfl rfl (by rfl) (fun K hK => ?_)
              go_simp
              refine hK.out _ _ ?_
              clear hK K
              try simp only [Act.put, List.setIfInBounds_toArray, List.set_cons_zero, List.set_cons_succ]
              refine takeA (i := 12) (d := some 25) (v := ?v54) rfl rfl (by kernel_rfl) (by kernel_rfl) (by kernel_rfl) (fun _ _ _ h => h) (Or.inl ⟨by rfl, ?hy54⟩) ?rest54
              case hy54 => (intro w9; first | (go_simp; done) | (go_simp; with_reducible rfl))
              try simp only [Act.put, List.setIfInBounds_toArray, List.set_cons_zero, List.set_cons_succ]
              refine takeA (i := 13) (d := some 26) (v := ?v55) rfl rfl (by kernel_rfl) (by kernel_rfl) (by kernel_rfl) (fun _ _ _ h => h) (Or.inl ⟨by rfl, ?hy55⟩) ?rest55
              case hy55 => (intro w9; first | (go_simp; done) | (go_simp; with_reducible rfl))
              try simp only [Act.put, List.setIfInBounds_toArray, List.set_cons_zero, List.set_cons_succ]
              refine takeA (i := 14) (d := some 27) (v := ?v56) rfl rfl (by kernel_rfl) (by kernel_rfl) (by kernel_rfl) (fun _ _ _ h => h) (Or.inl ⟨by rfl, ?hy56⟩) ?rest56
              case hy56 => (intro w9; first | (go_simp; done) | (go_simp; with_reducible rfl))
              try simp only [Act.put, List.setIfInBounds_toArray, List.set_cons_zero, List.set_cons_succ]
              refine wpAny_done (by kernel_rfl) ?_ _
              refine NoPanic.normal ?_
              clear d0 d1
              simp only [Exit.then]
              go_wp2_with (first | refine wpList_load_row rfl 36 _ rfl L rfl _ _ _ _ HBL4.out Tryd.underlying36 rfl (fit Hz4.out) ?_ | (go_at_call 43; (with_reducible refine (HBy1.out _).mono ?_); rintro e w5 ⟨rfl, k5⟩; have HB5 := Lib.hid (HB4.out.below k5); clear k5) | (go_at_call 95; refine (HC2.out _ _ HB5.out.p HR2.out).mono ?_; rintro e w6 ⟨rfl, ⟨hx6, p⟩, o⟩; have HB6 := Lib.hid (HB5.out.next (Nat.le_refl _) HG.out p o); have HX6 := Lib.hid hx6; clear p o hx6) | (go_at_call 43; (with_reducible refine (HBy2.out _).mono ?_); rintro e w7 ⟨rfl, k7⟩; have HB7 := Lib.hid (HB6.out.below k7); clear k7))
              go_quiet (fail)
              simp only [Exit.then]
              obtain ⟨w8, hw8⟩ : ∃ w8, w8 = w7.drewN nq := ⟨_, rfl⟩
              have HB8 := Lib.hid (show bS w w8 g s _ _ _ w.heap.size 36 (sv zero) from by rw [hw8]; exact HB7.out.below (below_draws _ _))
              try rw [← hw8]
              clear hw8
              go_wp2_with (first | (go_at_call 23; refine (fail_late _ _ (by have := HX6.out; omega) HB8.out.p).mono ?_; rintro e w9 ⟨rfl, p, o⟩; have HB9 := Lib.hid (HB8.out.next (Nat.le_refl _) HG.out p o); clear p o) | (refine wpList_store_row rfl 36 _ _ rfl w.heap.size (sv zero) rfl rfl _ _ HB9.out.b (fit (sv4 zero_set)) rfl (sv_one _) ?_))
              refine bodyPost_ret (v := .agg (sv zero)) (results_cell_row rfl _ _ w.heap.size 36 _ _ _ rfl (setRow_heap _ _ _ _ _ _ HB9.out.b) Tryd.underlying36 rfl (fit (sv4 zero_set))) rfl ?_
              refine ⟨zero, rfl, ⟨zero_set, ?_⟩, only_row HB9.out.o (Nat.le_refl _) _⟩
              exact HT.out _ _ ⟨HX6.out, par_row HB9.out.p (by have := HG.out; omega) _⟩
            · skip
              refine opA (d := some 24) rfl rfl (by rfl) (fun K hK => ?_)
              go_simp
              refine hK.out _ _ ?_
              clear hK K
              try simp only [Act.put, List.setIfInBounds_toArray, List.set_cons_zero, List.set_cons_succ]
              refine takeA (i := 12) (d := some 25) (v := ?v57) rfl rfl (by kernel_rfl) (by kernel_rfl) (by kernel_rfl) (fun _ _ _ h => h) (Or.inl ⟨by rfl, ?hy57⟩) ?rest57
              case hy57 => (intro w9; first | (go_simp; done) | (go_simp; with_reducible rfl))
              try simp only [Act.put, List.setIfInBounds_toArray, List.set_cons_zero, List.set_cons_succ]
              refine oneA (i := 7) (by kernel_rfl) ?_
              refine opA (d := some 20) rfl rfl (by rfl) (fun K hK => ?_)
              go_simp
              refine hK.out _ _ ?_
              clear hK K
              try simp only [Act.put, List.setIfInBounds_toArray, List.set_cons_zero, List.set_cons_succ]
              refine takeA (i := 13) (d := some 26) (v := ?v58) rfl rfl (by kernel_rfl) (by kernel_rfl) (by kernel_rfl) (fun _ _ _ h => h) (Or.inl ⟨by rfl, ?hy58⟩) ?rest58
              case hy58 => (intro w9; first | (go_simp; done) | (go_simp; with_reducible rfl))
              try simp only [Act.put, List.setIfInBounds_toArray, List.set_cons_zero, List.set_cons_succ]
              refine takeA (i := 14) (d := some 27) (v := ?v59) rfl rfl (by kernel_rfl) (by kernel_rfl) (by kernel_rfl) (fun _ _ _ h => h) (Or.inl ⟨by rfl, ?hy59⟩) ?rest59
              case hy59 => (intro w9; first | (go_simp; done) | (go_simp; with_reducible rfl))
              try simp only [Act.put, List.setIfInBounds_toArray, List.set_cons_zero, List.set_cons_succ]
              refine wpAny_done (by kernel_rfl) ?_ _
              refine NoPanic.normal ?_
              clear d0 d1
              simp only [Exit.then]
              go_wp2_with (first | refine wpList_load_row rfl 36 _ rfl L rfl _ _ _ _ HBL4.out Tryd.underlying36 rfl (fit Hz4.out) ?_ | (go_at_call 43; (with_reducible refine (HBy1.out _).mono ?_); rintro e w5 ⟨rfl, k5⟩; have HB5 := Lib.hid (HB4.out.below k5); clear k5) | (go_at_call 95; refine (HC2.out _ _ HB5.out.p HR2.out).mono ?_; rintro e w6 ⟨rfl, ⟨hx6, p⟩, o⟩; have HB6 := Lib.hid (HB5.out.next (Nat.le_refl _) HG.out p o); have HX6 := Lib.hid hx6; clear p o hx6) | (go_at_call 43; (with_reducible refine (HBy2.out _).mono ?_); rintro e w7 ⟨rfl, k7⟩; have HB7 := Lib.hid (HB6.out.below k7); clear k7))
              go_quiet (fail)
              simp only [Exit.then]
              obtain ⟨w8, hw8⟩ : ∃ w8, w8 = w7.drewN nq := ⟨_, rfl⟩
              have HB8 := Lib.hid (show bS w w8 g s _ _ _ w.heap.size 36 (sv zero) from by rw [hw8]; exact HB7.out.below (below_draws _ _))
              try rw [← hw8]
              clear hw8
              go_wp2_with (first | (go_at_call 23; refine (fail_late _ _ (by have := HX6.out; omega) HB8.out.p).mono ?_; rintro e w9 ⟨rfl, p, o⟩; have HB9 := Lib.hid (HB8.out.next (Nat.le_refl _) HG.out p o); clear p o) | (refine wpList_store_row rfl 36 _ _ rfl w.heap.size (sv zero) rfl rfl _ _ HB9.out.b (fit (sv4 zero_set)) rfl (sv_one _) ?_))
              refine bodyPost_ret (v := .agg (sv zero)) (results_cell_row rfl _ _ w.heap.size 36 _ _ _ rfl (setRow_heap _ _ _ _ _ _ HB9.out.b) Tryd.underlying36 rfl (fit (sv4 zero_set))) rfl ?_
              refine ⟨zero, rfl, ⟨zero_set, ?_⟩, only_row HB9.out.o (Nat.le_refl _) _⟩
              exact HT.out _ _ ⟨HX6.out, par_row HB9.out.p (by have := HG.out; omega) _⟩
        | ok y r4 =>
          have h93d : d ≠ 93 := fun h => by unfold chP at hq2; dsimp only at hq2; rw [if_pos h] at hq2; cases hq2
          have hq3 : chrP (d :: r3) = .ok y r4 := by unfold chP at hq2; dsimp only at hq2; rw [if_neg h93d] at hq2; exact hq2
          have hys : isSet y.1 := by have := chr_all (d :: r3); rw [hq3] at this; exact this.1.1
          have HC2 : Hid (∀ u a1, par u g s (a1 + 1) 0 0 → rst s (a1 + 1) = d :: r3 → Calls Tryd.prog 95 #[.pointer (some ⟨g, 0, none⟩)] u fun e w' => e = .returned (.agg (sv y.1)) ∧ (onlyO y.2 y.1 ∧ ∃ a6, a6 ≤ s.size ∧ rst s a6 = r4 ∧ par w' g s a6 0 0) ∧ Only (· = g) u w') := Lib.hid (fun u a1 h hr => (char_any hs hr (Lib.hid h)).mono fun e w' ⟨z, h1, h2, h4⟩ => by rw [hq2] at h2; obtain ⟨_, h5, h6, a6, h7, h8, h9⟩ := h2; exact ⟨by rw [h1, h5], ⟨by rw [← h5]; exact h6, a6, h7, h9, h8⟩, h4⟩)
          have HITM : Hid (∀ (z : List Nat) (u : World), (match x.2, y.2 with | some lo, some hi => if hi < lo then dead u g s 18 (r3.length + 2) else z = frm lo (hi + 1) ∧ live u g s r4 | _, _ => dead u g s 18 (r3.length + 2)) → itmB s g x (45 :: d :: r3) z u) := Lib.hid (fun z u h => by show (if d = 93 then dead u g s 15 (r3.length + 1) else outS (chrP (d :: r3)) _ _); rw [if_neg h93d, hq3]; exact h)
          have HYS := Lib.hid hys
          have HBy2 : Hid (∀ w, Calls Tryd.prog 43 #[.agg (sv y.1)] w fun e w' => e = .returned (.string ⟨(bts y.1).toArray⟩) ∧ Below w.heap.size w w') := Lib.hid (fun w => Bytes_any HYS.out w)
          have HN2 : Hid ((⟨(bts y.1).toArray⟩ : ByteArray).size = (byt y.1).length) := Lib.hid (by show (bts y.1).toArray.size = _; rw [List.size_toArray, bts_len])
          have HG0 : Hid (∀ b, byt y.1 = [b] → b < 256 → bt ⟨(bts y.1).toArray⟩ 0 = (b : Int)) := Lib.hid (fun b h hb => bt_one h hb)
          obtain ⟨F2, hF2⟩ : ∃ F2 : ByteArray, F2 = ⟨(bts y.1).toArray⟩ := ⟨_, rfl⟩
          rw [← hF2] at HBy2 HN2 HG0
          clear hF2
          have hb2 := get_bt F2
          clear hq2 hq3 hys h93d
          by_cases hn1 : F1.size = 1
          · have hn1a : ((F1.size : Int) != 1) = false := by rw [hn1]; rfl
            obtain ⟨lo, hlo⟩ : ∃ lo, byt x.1 = [lo] := List.length_eq_one_iff.1 (by rw [← HN1.out, hn1])
            by_cases hn2 : F2.size = 1
            · have hn2a : ((F2.size : Int) != 1) = false := by rw [hn2]; rfl
              obtain ⟨hi, hhi⟩ : ∃ hi, byt y.1 = [hi] := List.length_eq_one_iff.1 (by rw [← HN2.out, hn2])
              have hlo2 : lo < 256 := byt_lt lo (by rw [hlo]; simp)
              have hhi2 : hi < 256 := byt_lt hi (by rw [hhi]; simp)
              have hx0 : bt F1 0 = (lo : Int) := HF0.out lo hlo hlo2
              have hy0 : bt F2 0 = (hi : Int) := HG0.out hi hhi hhi2
              have hi1 : (0 : Int) < (F1.size : Int) := by omega
              have hi2 : (0 : Int) < (F2.size : Int) := by omega
              have HLO := Lib.hid hlo
              have HHI := Lib.hid hhi
              have HOX : Hid (onlyO x.2 x.1 → x.2 = some lo) := Lib.hid (fun h => only_some h hlo)
              have HOY : Hid (onlyO y.2 y.1 → y.2 = some hi) := Lib.hid (fun h => only_some h hhi)
              by_cases hc : hi < lo
              · have hgt : (hi : Int) < (lo : Int) := by omega
                have HT : Hid (onlyO x.2 x.1 → onlyO y.2 y.1 → ∀ (z : List Nat) (u : World), dead u g s 18 (r3.length + 2) → itmB s g x (45 :: d :: r3) z u) := Lib.hid (fun h1 h2 z u h => HITM.out z u (by rw [HOX.out h1, HOY.out h2]; dsimp only; rw [if_pos hc]; exact h))
                clear HF0 HG0 hn1 hn2 hlo hhi hc HITM
                go_enter Tryd.func88, Tryd.ntmps88
                go_upto_region 1 with fail
                rw [← hw0]
                clear hw0
                go_upto_region 2 with (first | (go_at_call 95; refine (HCC.out _ HB0.out.p).mono ?_; rintro e w2 ⟨rfl, ⟨ho1, a1, ha1, hr1, p⟩, o⟩; have HB2 := Lib.hid (HB0.out.next (Nat.le_refl _) HG.out p o); clear p o) | (refine wpList_store_row rfl 36 _ _ rfl w2.heap.size z rfl rfl _ _ (zero4 w2) (fit Hz4.out) (Eq.trans (sv4 zero_set) Hz4.out.symm) Hz1.out ?_))
                obtain ⟨w3, hw3⟩ : ∃ w3, w3 = (w2.alloc (.cells #[.int .u64 0, .int .u64 0, .int .u64 0, .int .u64 0] 36)).setRow w2.heap.size z := ⟨_, rfl⟩
                obtain ⟨L, hL⟩ : ∃ L, L = w2.heap.size := ⟨_, rfl⟩
                have K3 : Below w2.heap.size w2 w3 := by rw [hw3]; exact Below_setRow (below_alloc w2 _) (Nat.le_refl _) _
                have HB3 := Lib.hid (HB2.out.below K3)
                have HBL : Hid (Blk w3 L 36 z) := Lib.hid (by rw [hw3, hL]; exact setRow_heap _ _ _ _ _ _ (zero4 w2))
                have HGL : Hid (L ≠ g ∧ L ≠ w.heap.size) := Lib.hid (by have h1 := HG.out; have h2 := Blk.lt HB2.out.b; omega)
                rw [← hw3, ← hL]
                clear hw3 K3 hL
                have HO1 := Lib.hid ho1
                have HA1 := Lib.hid ha1
                have HR1 := Lib.hid hr1
                clear ho1 ha1 hr1
                have d1 := HB3.out.p.c1
                have HX : Hid (nxQ ⟨#[45]⟩ (rst s a1) = true) := Lib.hid (nx_yes in_45 HR1.out rfl)
                have he := rst_len s a1
                rw [HR1.out] at he
                have hqe : ((a1 : Int) + 1 == (s.size : Int)) = false := by simp at he ⊢; omega
                have HEE : Hid (a1 + (r3.length + 2) = s.size) := Lib.hid (by simp at he; omega)
                clear he
                have HR2 : Hid (rst s (a1 + 1) = d :: r3) := Lib.hid (rst_next HR1.out).2.2.2
                go_wp2
                clear d1
                refine wp_region_noPanic ?_
                refine wp_region_any (by kernel_rfl) ?_
                show wpAny _ _ _ _ _ _ _ w3.drew
                refine takeA (i := 0) (d := some 13) (v := ?v60) rfl rfl (by kernel_rfl) (by kernel_rfl) (by kernel_rfl) (fun _ _ _ h => h) (Or.inl ⟨by rfl, ?hy60⟩) ?rest60
                case hy60 => (intro w9; first | (go_simp; done) | (go_simp; with_reducible rfl))
                try simp only [Act.put, List.setIfInBounds_toArray, List.set_cons_zero, List.set_cons_succ]
                refine oneA (i := 1) (by kernel_rfl) ?_
                refine opA (d := some 14) rfl rfl (by rfl) (fun K hK => ?_)
                go_simp
                go_at_call 34
                refine (take_yes hs HA1.out HX.out HB3.out.p.drew1).mono ?_
                rintro e w4 ⟨rfl, p, o⟩
                have HB4 := Lib.hid ((HB3.out.below (below_draws w3 1)).next (Nat.le_refl _) HG.out p o)
                have HBL4 : Hid (Blk w4 L 36 z) := Lib.hid (Blk.only (w := w3.drew) HBL.out o HGL.out.1)
                have d0 := HB4.out.p.c0
                have d1 : w4.cell? ⟨g, 1, none⟩ = some (.int .i64 ((a1 : Int) + 1)) := by have := HB4.out.p.c1; simpa using this
                clear p o
                refine hK.out _ _ ?_
                clear hK K
                try simp only [Act.put, List.setIfInBounds_toArray, List.set_cons_zero, List.set_cons_succ]
                refine takeA (i := 2) (d := some 15) (v := ?v61) rfl rfl (by kernel_rfl) (by kernel_rfl) (by kernel_rfl) (fun _ _ _ h => h) (Or.inl ⟨by rfl, ?hy61⟩) ?rest61
                case hy61 => (intro w9; first | (go_simp; done) | (go_simp; with_reducible rfl))
                try simp only [Act.put, List.setIfInBounds_toArray, List.set_cons_zero, List.set_cons_succ]
                refine takeA (i := 3) (d := some 16) (v := ?v62) rfl rfl (by kernel_rfl) (by kernel_rfl) (by kernel_rfl) (fun _ _ _ h => h) (Or.inl ⟨by rfl, ?hy62⟩) ?rest62
                case hy62 => (intro w9; first | (go_simp; done) | (go_simp; with_reducible rfl))
                try simp only [Act.put, List.setIfInBounds_toArray, List.set_cons_zero, List.set_cons_succ]
                refine takeA (i := 4) (d := some 17) (v := ?v63) rfl rfl (by kernel_rfl) (by kernel_rfl) (by kernel_rfl) (fun _ _ _ h => h) (Or.inl ⟨by rfl, ?hy63⟩) ?rest63
                case hy63 => (intro w9; first | (go_simp; done) | (go_simp; with_reducible rfl))
                try simp only [Act.put, List.setIfInBounds_toArray, List.set_cons_zero, List.set_cons_succ]
                refine takeA (i := 8) (d := some 21) (v := ?v64) rfl rfl (by kernel_rfl) (by kernel_rfl) (by kernel_rfl) (fun _ _ _ h => h) (Or.inl ⟨by rfl, ?hy64⟩) ?rest64
                case hy64 => (intro w9; first | (go_simp; done) | (go_simp; with_reducible rfl))
                try simp only [Act.put, List.setIfInBounds_toArray, List.set_cons_zero, List.set_cons_succ]
                refine takeA (i := 5) (d := some 18) (v := ?v65) rfl rfl (by kernel_rfl) (by kernel_rfl) (by kernel_rfl) (fun _ _ _ h => h) (Or.inl ⟨by rfl, ?hy65⟩) ?rest65
                case hy65 => (intro w9; first | (go_simp; done) | (go_simp; with_reducible rfl))
                try simp only [Act.put, List.setIfInBounds_toArray, List.set_cons_zero, List.set_cons_succ]
                refine takeA (i := 9) (d := some 22) (v := ?v66) rfl rfl (by kernel_rfl) (by kernel_rfl) (by kernel_rfl) (fun _ _ _ h => h) (Or.inl ⟨by rfl, ?hy66⟩) ?rest66
                case hy66 => (intro w9; first | (go_simp; done) | (go_simp; with_reducible rfl))
                try simp only [Act.put, List.setIfInBounds_toArray, List.set_cons_zero, List.set_cons_succ]
                refine takeA (i := 6) (d := some 19) (v := ?v67) rfl rfl (by kernel_rfl) (by kernel_rfl) (by kernel_rfl) (fun _ _ _ h => h) (Or.inl ⟨by rfl, ?hy67⟩) ?rest67
                case hy67 => (intro w9; first | (go_simp; done) | (go_simp; with_reducible rfl))
                try simp only [Act.put, List.setIfInBounds_toArray, List.set_cons_zero, List.set_cons_succ]
                refine takeA (i := 10) (d := some 23) (v := ?v68) rfl rfl (by kernel_rfl) (by kernel_rfl) (by kernel_rfl) (fun _ _ _ h => h) (Or.inl ⟨by rfl, ?hy68⟩) ?rest68
                case hy68 => (intro w9; first | (go_simp; done) | (go_simp; with_reducible rfl))
                try simp only [Act.put, List.setIfInBounds_toArray, List.set_cons_zero, List.set_cons_succ]
                refine twoA (i := 7) (j := 11) (by kernel_rfl) ?_ ?_
                · skip
                  refine opA (d := some 20) rfl rfl (by rfl) (fun K hK => ?_)
                  go_simp
                  refine hK.out _ _ ?_
                  clear hK K
                  try simp only [Act.put, List.setIfInBounds_toArray, List.set_cons_zero, List.set_cons_succ]
                  refine oneA (i := 11) (by kernel_rfl) ?_
                  refine opA (d := some 24) rfl rfl (by rfl) (fun K hK => ?_)
                  go_simp
                  refine hK.out _ _ ?_
                  clear hK K
                  try simp only [Act.put, List.setIfInBounds_toArray, List.set_cons_zero, List.set_cons_succ]
                  refine takeA (i := 12) (d := some 25) (v := ?v69) rfl rfl (by kernel_rfl) (by kernel_rfl) (by kernel_rfl) (fun _ _ _ h => h) (Or.inl ⟨by rfl, ?hy69⟩) ?rest69
                  case hy69 => (intro w9; first | (go_simp; done) | (go_simp; with_reducible rfl))
                  try simp only [Act.put, List.setIfInBounds_toArray, List.set_cons_zero, List.set_cons_succ]
                  refine takeA (i := 13) (d := some 26) (v := ?v70) rfl rfl (by kernel_rfl) (by kernel_rfl) (by kernel_rfl) (fun _ _ _ h => h) (Or.inl ⟨by rfl, ?hy70⟩) ?rest70
                  case hy70 => (intro w9; first | (go_simp; done) | (go_simp; with_reducible rfl))
                  try simp only [Act.put, List.setIfInBounds_toArray, List.set_cons_zero, List.set_cons_succ]
                  refine takeA (i := 14) (d := some 27) (v := ?v71) rfl rfl (by kernel_rfl) (by kernel_rfl) (by kernel_rfl) (fun _ _ _ h => h) (Or.inl ⟨by rfl, ?hy71⟩) ?rest71
                  case hy71 => (intro w9; first | (go_simp; done) | (go_simp; with_reducible rfl))
                  try simp only [Act.put, List.setIfInBounds_toArray, List.set_cons_zero, List.set_cons_succ]
                  refine wpAny_done (by kernel_rfl) ?_ _
                  refine NoPanic.normal ?_
                  clear d0 d1
                  simp only [Exit.then]
                  go_wp2_with (first | refine wpList_load_row rfl 36 _ rfl L rfl _ _ _ _ HBL4.out Tryd.underlying36 rfl (fit Hz4.out) ?_ | (go_at_call 43; (with_reducible refine (HBy1.out _).mono ?_); rintro e w5 ⟨rfl, k5⟩; have HB5 := Lib.hid (HB4.out.below k5); clear k5) | (go_at_call 95; refine (HC2.out _ _ HB5.out.p HR2.out).mono ?_; rintro e w6 ⟨rfl, ⟨hx6, a6, ha6, hr6, p⟩, o⟩; have HB6 := Lib.hid (HB5.out.next (Nat.le_refl _) HG.out p o); have HX6 := Lib.hid hx6; clear p o hx6) | (go_at_call 43; (with_reducible refine (HBy2.out _).mono ?_); rintro e w7 ⟨rfl, k7⟩; have HB7 := Lib.hid (HB6.out.below k7); clear k7))
                  go_quiet (fail)
                  simp only [Exit.then]
                  obtain ⟨w8, hw8⟩ : ∃ w8, w8 = w7.drewN nq := ⟨_, rfl⟩
                  have HB8 := Lib.hid (show bS w w8 g s _ _ _ w.heap.size 36 (sv zero) from by rw [hw8]; exact HB7.out.below (below_draws _ _))
                  try rw [← hw8]
                  clear hw8
                  go_wp2_with (first | (go_at_call 23; refine (fail_first _ _ HB8.out.p).mono ?_; rintro e w9 ⟨rfl, p, o⟩; have HB9 := Lib.hid (HB8.out.next (Nat.le_refl _) HG.out p o); clear p o) | (refine wpList_store_row rfl 36 _ _ rfl w.heap.size (sv zero) rfl rfl _ _ HB9.out.b (fit (sv4 zero_set)) rfl (sv_one _) ?_))
                  refine bodyPost_ret (v := .agg (sv zero)) (results_cell_row rfl _ _ w.heap.size 36 _ _ _ rfl (setRow_heap _ _ _ _ _ _ HB9.out.b) Tryd.underlying36 rfl (fit (sv4 zero_set))) rfl ?_
                  refine ⟨zero, rfl, ⟨zero_set, ?_⟩, only_row HB9.out.o (Nat.le_refl _) _⟩
                  exact HT.out HO1.out HX6.out _ _ (dead_at (a := a1) (by decide) (par_row HB9.out.p (by have := HG.out; omega) _) (by have := HEE.out; omega))
                · skip
                  refine opA (d := some 24) rfl rfl (by rfl) (fun K hK => ?_)
                  go_simp
                  refine hK.out _ _ ?_
                  clear hK K
                  try simp only [Act.put, List.setIfInBounds_toArray, List.set_cons_zero, List.set_cons_succ]
                  refine takeA (i := 12) (d := some 25) (v := ?v72) rfl rfl (by kernel_rfl) (by kernel_rfl) (by kernel_rfl) (fun _ _ _ h => h) (Or.inl ⟨by rfl, ?hy72⟩) ?rest72
                  case hy72 => (intro w9; first | (go_simp; done) | (go_simp; with_reducible rfl))
                  try simp only [Act.put, List.setIfInBounds_toArray, List.set_cons_zero, List.set_cons_succ]
                  refine oneA (i := 7) (by kernel_rfl) ?_
                  refine opA (d := some 20) rfl rfl (by rfl) (fun K hK => ?_)
                  go_simp
                  refine hK.out _ _ ?_
                  clear hK K
                  try simp only [Act.put, List.setIfInBounds_toArray, List.set_cons_zero, List.set_cons_succ]
                  refine takeA (i := 13) (d := some 26) (v := ?v73) rfl rfl (by kernel_rfl) (by kernel_rfl) (by kernel_rfl) (fun _ _ _ h => h) (Or.inl ⟨by rfl, ?hy73⟩) ?rest73
                  case hy73 => (intro w9; first | (go_simp; done) | (go_simp; with_reducible rfl))
                  try simp only [Act.put, List.setIfInBounds_toArray, List.set_cons_zero, List.set_cons_succ]
                  refine takeA (i := 14) (d := some 27) (v := ?v74) rfl rfl (by kernel_rfl) (by kernel_rfl) (by kernel_rfl) (fun _ _ _ h => h) (Or.inl ⟨by rfl, ?hy74⟩) ?rest74
                  case hy74 => (intro w9; first | (go_simp; done) | (go_simp; with_reducible rfl))
                  try simp only [Act.put, List.setIfInBounds_toArray, List.set_cons_zero, List.set_cons_succ]
                  refine wpAny_done (by kernel_rfl) ?_ _
                  refine NoPanic.normal ?_
                  clear d0 d1
                  simp only [Exit.then]
                  go_wp2_with (first | refine wpList_load_row rfl 36 _ rfl L rfl _ _ _ _ HBL4.out Tryd.underlying36 rfl (fit Hz4.out) ?_ | (go_at_call 43; (with_reducible refine (HBy1.out _).mono ?_); rintro e w5 ⟨rfl, k5⟩; have HB5 := Lib.hid (HB4.out.below k5); clear k5) | (go_at_call 95; refine (HC2.out _ _ HB5.out.p HR2.out).mono ?_; rintro e w6 ⟨rfl, ⟨hx6, a6, ha6, hr6, p⟩, o⟩; have HB6 := Lib.hid (HB5.out.next (Nat.le_refl _) HG.out p o); have HX6 := Lib.hid hx6; clear p o hx6) | (go_at_call 43; (with_reducible refine (HBy2.out _).mono ?_); rintro e w7 ⟨rfl, k7⟩; have HB7 := Lib.hid (HB6.out.below k7); clear k7))
                  go_quiet (fail)
                  simp only [Exit.then]
                  obtain ⟨w8, hw8⟩ : ∃ w8, w8 = w7.drewN nq := ⟨_, rfl⟩
                  have HB8 := Lib.hid (show bS w w8 g s _ _ _ w.heap.size 36 (sv zero) from by rw [hw8]; exact HB7.out.below (below_draws _ _))
                  try rw [← hw8]
                  clear hw8
                  go_wp2_with (first | (go_at_call 23; refine (fail_first _ _ HB8.out.p).mono ?_; rintro e w9 ⟨rfl, p, o⟩; have HB9 := Lib.hid (HB8.out.next (Nat.le_refl _) HG.out p o); clear p o) | (refine wpList_store_row rfl 36 _ _ rfl w.heap.size (sv zero) rfl rfl _ _ HB9.out.b (fit (sv4 zero_set)) rfl (sv_one _) ?_))
                  refine bodyPost_ret (v := .agg (sv zero)) (results_cell_row rfl _ _ w.heap.size 36 _ _ _ rfl (setRow_heap _ _ _ _ _ _ HB9.out.b) Tryd.underlying36 rfl (fit (sv4 zero_set))) rfl ?_
                  refine ⟨zero, rfl, ⟨zero_set, ?_⟩, only_row HB9.out.o (Nat.le_refl _) _⟩
                  exact HT.out HO1.out HX6.out _ _ (dead_at (a := a1) (by decide) (par_row HB9.out.p (by have := HG.out; omega) _) (by have := HEE.out; omega))
              · have hgt : ¬ (hi : Int) < (lo : Int) := by omega
                have HT : Hid (onlyO x.2 x.1 → onlyO y.2 y.1 → ∀ (u : World), live u g s r4 → itmB s g x (45 :: d :: r3) (frm lo (hi + 1)) u) := Lib.hid (fun h1 h2 u h => HITM.out _ u (by rw [HOX.out h1, HOY.out h2]; dsimp only; rw [if_neg hc]; exact ⟨rfl, h⟩))
                have HRA : Hid (∀ w, Calls Tryd.prog 78 #[.int .u8 lo, .int .u8 hi] w fun e w' => e = .returned (.agg (sv (frm lo (hi + 1)))) ∧ Below w.heap.size w w') := Lib.hid (fun w => Range_any hlo2 hhi2 w)
                obtain ⟨v0, v1, v2, v3, hv⟩ := four_of (frm_set lo (hi + 1))
                rw [hv, sv_four] at HRA
                have HVE := Lib.hid hv
                clear HF0 HG0 hn1 hn2 hlo hhi hc HITM hv
                go_enter Tryd.func88, Tryd.ntmps88
                go_upto_region 1 with fail
                rw [← hw0]
                clear hw0
                go_upto_region 2 with (first | (go_at_call 95; refine (HCC.out _ HB0.out.p).mono ?_; rintro e w2 ⟨rfl, ⟨ho1, a1, ha1, hr1, p⟩, o⟩; have HB2 := Lib.hid (HB0.out.next (Nat.le_refl _) HG.out p o); clear p o) | (refine wpList_store_row rfl 36 _ _ rfl w2.heap.size z rfl rfl _ _ (zero4 w2) (fit Hz4.out) (Eq.trans (sv4 zero_set) Hz4.out.symm) Hz1.out ?_))
                obtain ⟨w3, hw3⟩ : ∃ w3, w3 = (w2.alloc (.cells #[.int .u64 0, .int .u64 0, .int .u64 0, .int .u64 0] 36)).setRow w2.heap.size z := ⟨_, rfl⟩
                obtain ⟨L, hL⟩ : ∃ L, L = w2.heap.size := ⟨_, rfl⟩
                have K3 : Below w2.heap.size w2 w3 := by rw [hw3]; exact Below_setRow (below_alloc w2 _) (Nat.le_refl _) _
                have HB3 := Lib.hid (HB2.out.below K3)
                have HBL : Hid (Blk w3 L 36 z) := Lib.hid (by rw [hw3, hL]; exact setRow_heap _ _ _ _ _ _ (zero4 w2))
                have HGL : Hid (L ≠ g ∧ L ≠ w.heap.size) := Lib.hid (by have h1 := HG.out; have h2 := Blk.lt HB2.out.b; omega)
                rw [← hw3, ← hL]
                clear hw3 K3 hL
                have HO1 := Lib.hid ho1
                have HA1 := Lib.hid ha1
                have HR1 := Lib.hid hr1
                clear ho1 ha1 hr1
                have d1 := HB3.out.p.c1
                have HX : Hid (nxQ ⟨#[45]⟩ (rst s a1) = true) := Lib.hid (nx_yes in_45 HR1.out rfl)
                have he := rst_len s a1
                rw [HR1.out] at he
                have hqe : ((a1 : Int) + 1 == (s.size : Int)) = false := by simp at he ⊢; omega
                have HEE : Hid (a1 + (r3.length + 2) = s.size) := Lib.hid (by simp at he; omega)
                clear he
                have HR2 : Hid (rst s (a1 + 1) = d :: r3) := Lib.hid (rst_next HR1.out).2.2.2
                go_wp2
                clear d1
                refine wp_region_noPanic ?_
                refine wp_region_any (by kernel_rfl) ?_
                show wpAny _ _ _ _ _ _ _ w3.drew
                refine takeA (i := 0) (d := some 13) (v := ?v79) rfl rfl (by kernel_rfl) (by kernel_rfl) (by kernel_rfl) (fun _ _ _ h => h) (Or.inl ⟨by rfl, ?hy79⟩) ?rest79
                case hy79 => (intro w9; first | (go_simp; done) | (go_simp; with_reducible rfl))
                try simp only [Act.put, List.setIfInBounds_toArray, List.set_cons_zero, List.set_cons_succ]
                refine oneA (i := 1) (by kernel_rfl) ?_
                refine opA (d := some 14) rfl rfl (by rfl) (fun K hK => ?_)
                go_simp
                go_at_call 34
                refine (take_yes hs HA1.out HX.out HB3.out.p.drew1).mono ?_
                rintro e w4 ⟨rfl, p, o⟩
                have HB4 := Lib.hid ((HB3.out.below (below_draws w3 1)).next (Nat.le_refl _) HG.out p o)
                have HBL4 : Hid (Blk w4 L 36 z) := Lib.hid (Blk.only (w := w3.drew) HBL.out o HGL.out.1)
                have d0 := HB4.out.p.c0
                have d1 : w4.cell? ⟨g, 1, none⟩ = some (.int .i64 ((a1 : Int) + 1)) := by have := HB4.out.p.c1; simpa using this
                clear p o
                refine hK.out _ _ ?_
                clear hK K
                try simp only [Act.put, List.setIfInBounds_toArray, List.set_cons_zero, List.set_cons_succ]
                refine takeA (i := 2) (d := some 15) (v := ?v80) rfl rfl (by kernel_rfl) (by kernel_rfl) (by kernel_rfl) (fun _ _ _ h => h) (Or.inl ⟨by rfl, ?hy80⟩) ?rest80
                case hy80 => (intro w9; first | (go_simp; done) | (go_simp; with_reducible rfl))
                try simp only [Act.put, List.setIfInBounds_toArray, List.set_cons_zero, List.set_cons_succ]
                refine takeA (i := 3) (d := some 16) (v := ?v81) rfl rfl (by kernel_rfl) (by kernel_rfl) (by kernel_rfl) (fun _ _ _ h => h) (Or.inl ⟨by rfl, ?hy81⟩) ?rest81
                case hy81 => (intro w9; first | (go_simp; done) | (go_simp; with_reducible rfl))
                try simp only [Act.put, List.setIfInBounds_toArray, List.set_cons_zero, List.set_cons_succ]
                refine takeA (i := 4) (d := some 17) (v := ?v82) rfl rfl (by kernel_rfl) (by kernel_rfl) (by kernel_rfl) (fun _ _ _ h => h) (Or.inl ⟨by rfl, ?hy82⟩) ?rest82
                case hy82 => (intro w9; first | (go_simp; done) | (go_simp; with_reducible rfl))
                try simp only [Act.put, List.setIfInBounds_toArray, List.set_cons_zero, List.set_cons_succ]
                refine takeA (i := 8) (d := some 21) (v := ?v83) rfl rfl (by kernel_rfl) (by kernel_rfl) (by kernel_rfl) (fun _ _ _ h => h) (Or.inl ⟨by rfl, ?hy83⟩) ?rest83
                case hy83 => (intro w9; first | (go_simp; done) | (go_simp; with_reducible rfl))
                try simp only [Act.put, List.setIfInBounds_toArray, List.set_cons_zero, List.set_cons_succ]
                refine takeA (i := 5) (d := some 18) (v := ?v84) rfl rfl (by kernel_rfl) (by kernel_rfl) (by kernel_rfl) (fun _ _ _ h => h) (Or.inl ⟨by rfl, ?hy84⟩) ?rest84
                case hy84 => (intro w9; first | (go_simp; done) | (go_simp; with_reducible rfl))
                try simp only [Act.put, List.setIfInBounds_toArray, List.set_cons_zero, List.set_cons_succ]
                refine takeA (i := 9) (d := some 22) (v := ?v85) rfl rfl (by kernel_rfl) (by kernel_rfl) (by kernel_rfl) (fun _ _ _ h => h) (Or.inl ⟨by rfl, ?hy85⟩) ?rest85
                case hy85 => (intro w9; first | (go_simp; done) | (go_simp; with_reducible rfl))
                try simp only [Act.put, List.setIfInBounds_toArray, List.set_cons_zero, List.set_cons_succ]
                refine takeA (i := 6) (d := some 19) (v := ?v86) rfl rfl (by kernel_rfl) (by kernel_rfl) (by kernel_rfl) (fun _ _ _ h => h) (Or.inl ⟨by rfl, ?hy86⟩) ?rest86
                case hy86 => (intro w9; first | (go_simp; done) | (go_simp; with_reducible rfl))
                try simp only [Act.put, List.setIfInBounds_toArray, List.set_cons_zero, List.set_cons_succ]
                refine takeA (i := 10) (d := some 23) (v := ?v87) rfl rfl (by kernel_rfl) (by kernel_rfl) (by kernel_rfl) (fun _ _ _ h => h) (Or.inl ⟨by rfl, ?hy87⟩) ?rest87
                case hy87 => (intro w9; first | (go_simp; done) | (go_simp; with_reducible rfl))
                try simp only [Act.put, List.setIfInBounds_toArray, List.set_cons_zero, List.set_cons_succ]
                refine twoA (i := 7) (j := 11) (by kernel_rfl) ?_ ?_
                · skip
                  refine opA (d := some 20) rfl rfl (by rfl) (fun K hK => ?_)
                  go_simp
                  refine hK.out _ _ ?_
                  clear hK K
                  try simp only [Act.put, List.setIfInBounds_toArray, List.set_cons_zero, List.set_cons_succ]
                  refine oneA (i := 11) (by kernel_rfl) ?_
                  refine opA (d := some 24) rfl rfl (by rfl) (fun K hK => ?_)
                  go_simp
                  refine hK.out _ _ ?_
                  clear hK K
                  try simp only [Act.put, List.setIfInBounds_toArray, List.set_cons_zero, List.set_cons_succ]
                  refine takeA (i := 12) (d := some 25) (v := ?v88) rfl rfl (by kernel_rfl) (by kernel_rfl) (by kernel_rfl) (fun _ _ _ h => h) (Or.inl ⟨by rfl, ?hy88⟩) ?rest88
                  case hy88 => (intro w9; first | (go_simp; done) | (go_simp; with_reducible rfl))
                  try simp only [Act.put, List.setIfInBounds_toArray, List.set_cons_zero, List.set_cons_succ]
                  refine takeA (i := 13) (d := some 26) (v := ?v89) rfl rfl (by kernel_rfl) (by kernel_rfl) (by kernel_rfl) (fun _ _ _ h => h) (Or.inl ⟨by rfl, ?hy89⟩) ?rest89
                  case hy89 => (intro w9; first | (go_simp; done) | (go_simp; with_reducible rfl))
                  try simp only [Act.put, List.setIfInBounds_toArray, List.set_cons_zero, List.set_cons_succ]
                  refine takeA (i := 14) (d := some 27) (v := ?v90) rfl rfl (by kernel_rfl) (by kernel_rfl) (by kernel_rfl) (fun _ _ _ h => h) (Or.inl ⟨by rfl, ?hy90⟩) ?rest90
                  case hy90 => (intro w9; first | (go_simp; done) | (go_simp; with_reducible rfl))
                  try simp only [Act.put, List.setIfInBounds_toArray, List.set_cons_zero, List.set_cons_succ]
                  refine wpAny_done (by kernel_rfl) ?_ _
                  refine NoPanic.normal ?_
                  clear d0 d1
                  simp only [Exit.then]
                  go_wp2_with (first | refine wpList_load_row rfl 36 _ rfl L rfl _ _ _ _ HBL4.out Tryd.underlying36 rfl (fit Hz4.out) ?_ | (go_at_call 43; (with_reducible refine (HBy1.out _).mono ?_); rintro e w5 ⟨rfl, k5⟩; have HB5 := Lib.hid (HB4.out.below k5); clear k5) | (go_at_call 95; refine (HC2.out _ _ HB5.out.p HR2.out).mono ?_; rintro e w6 ⟨rfl, ⟨hx6, a6, ha6, hr6, p⟩, o⟩; have HB6 := Lib.hid (HB5.out.next (Nat.le_refl _) HG.out p o); have HX6 := Lib.hid hx6; clear p o hx6) | (go_at_call 43; (with_reducible refine (HBy2.out _).mono ?_); rintro e w7 ⟨rfl, k7⟩; have HB7 := Lib.hid (HB6.out.below k7); clear k7))
                  go_quiet (fail)
                  simp only [Exit.then]
                  obtain ⟨w8, hw8⟩ : ∃ w8, w8 = w7.drewN nq := ⟨_, rfl⟩
                  have HB8 := Lib.hid (show bS w w8 g s _ _ _ w.heap.size 36 (sv zero) from by rw [hw8]; exact HB7.out.below (below_draws _ _))
                  try rw [← hw8]
                  clear hw8
                  go_wp2
                  refine wp_region_noPanic ?_
                  refine wp_region_any (by kernel_rfl) ?_
                  show wpAny _ _ _ _ _ _ _ w8.drew
                  refine takeA (i := 0) (d := some 53) (v := ?v75) rfl rfl (by kernel_rfl) (by kernel_rfl) (by kernel_rfl) (fun _ _ _ h => h) (Or.inl ⟨by rfl, ?hy75⟩) ?rest75
                  case hy75 => (intro w9; first | (go_simp; done) | (go_simp; with_reducible rfl))
                  try simp only [Act.put, List.setIfInBounds_toArray, List.set_cons_zero, List.set_cons_succ]
                  refine takeA (i := 1) (d := some 54) (v := .int .u8 (lo : Int)) rfl rfl (by kernel_rfl) (by kernel_rfl) (by kernel_rfl) (fun _ _ _ h => h) (Or.inl ⟨by rfl, ?hy76⟩) ?rest76
                  case hy76 => (intro w9; go_simp; intro hE; exact absurd hi1 (by rw [hE]; decide))
                  try simp only [Act.put, List.setIfInBounds_toArray, List.set_cons_zero, List.set_cons_succ]
                  refine takeA (i := 2) (d := some 55) (v := ?v77) rfl rfl (by kernel_rfl) (by kernel_rfl) (by kernel_rfl) (fun _ _ _ h => h) (Or.inl ⟨by rfl, ?hy77⟩) ?rest77
                  case hy77 => (intro w9; first | (go_simp; done) | (go_simp; with_reducible rfl))
                  try simp only [Act.put, List.setIfInBounds_toArray, List.set_cons_zero, List.set_cons_succ]
                  refine takeA (i := 3) (d := some 56) (v := .int .u8 (hi : Int)) rfl rfl (by kernel_rfl) (by kernel_rfl) (by kernel_rfl) (fun _ _ _ h => h) (Or.inl ⟨by rfl, ?hy78⟩) ?rest78
                  case hy78 => (intro w9; go_simp; intro hE; exact absurd hi2 (by rw [hE]; decide))
                  try simp only [Act.put, List.setIfInBounds_toArray, List.set_cons_zero, List.set_cons_succ]
                  refine oneA (i := 4) (by kernel_rfl) ?_
                  refine opA (d := some 57) rfl rfl (by rfl) (fun K hK => ?_)
                  go_simp
                  go_at_call 78
                  refine (HRA.out _).mono ?_
                  rintro e w9 ⟨rfl, k9⟩
                  have HB9 := Lib.hid ((HB8.out.below (below_draws w8 1)).below k9)
                  clear k9
                  obtain ⟨e0, e1, e2, e3⟩ := cells4 (x0 := 0) (x1 := 0) (x2 := 0) (x3 := 0) HB9.out.b
                  have g0 := HB9.out.b.frozen 0
                  have g1 := HB9.out.b.frozen 1
                  have g2 := HB9.out.b.frozen 2
                  have g3 := HB9.out.b.frozen 3
                  refine hK.out _ _ ?_
                  clear hK K
                  try simp only [Act.put, List.setIfInBounds_toArray, List.set_cons_zero, List.set_cons_succ]
                  refine oneA (i := 5) (by kernel_rfl) ?_
                  refine opA (d := none) rfl rfl (by rfl) (fun K hK => ?_)
                  go_simp
                  refine hK.out _ _ ?_
                  clear hK K
                  try simp only [Act.put, List.setIfInBounds_toArray, List.set_cons_zero, List.set_cons_succ]
                  refine wpAny_done (by kernel_rfl) ?_ _
                  refine NoPanic.normal ?_
                  clear e0 e1 e2 e3 g0 g1 g2 g3
                  obtain ⟨wz, hwz⟩ : ∃ wz, wz = (((w9.setCell ⟨w.heap.size, 0, none⟩ (.int .u64 (v0 : Int))).setCell ⟨w.heap.size, 1, none⟩ (.int .u64 (v1 : Int))).setCell ⟨w.heap.size, 2, none⟩ (.int .u64 (v2 : Int))).setCell ⟨w.heap.size, 3, none⟩ (.int .u64 (v3 : Int)) := ⟨_, rfl⟩
                  have HW1 : Hid (Blk wz w.heap.size 36 (sv [v0, v1, v2, v3])) := Lib.hid (by rw [hwz]; exact store4 (x0 := 0) (x1 := 0) (x2 := 0) (x3 := 0) HB9.out.b)
                  have HW2 : Hid (Only (· = w.heap.size) w9 wz) := Lib.hid (by rw [hwz]; exact only4 _ _ _ _)
                  rw [← hwz]
                  clear hwz
                  simp only [Exit.then]
                  go_wp2
                  refine bodyPost_ret (v := .agg (sv [v0, v1, v2, v3])) (results_cell_row rfl _ _ w.heap.size 36 _ _ _ rfl HW1.out Tryd.underlying36 rfl (fit rfl)) rfl ?_
                  refine ⟨frm lo (hi + 1), by rw [HVE.out], ⟨frm_set _ _, ?_⟩, HB9.out.o.then HW2.out (fun i e h => absurd h (by omega))⟩
                  exact HT.out HO1.out HX6.out _ ⟨a6, ha6, Blk.only HB9.out.p HW2.out (by have := HG.out; omega), hr6⟩
                · skip
                  refine opA (d := some 24) rfl rfl (by rfl) (fun K hK => ?_)
                  go_simp
                  refine hK.out _ _ ?_
                  clear hK K
                  try simp only [Act.put, List.setIfInBounds_toArray, List.set_cons_zero, List.set_cons_succ]
                  refine takeA (i := 12) (d := some 25) (v := ?v91) rfl rfl (by kernel_rfl) (by kernel_rfl) (by kernel_rfl) (fun _ _ _ h => h) (Or.inl ⟨by rfl, ?hy91⟩) ?rest91
                  case hy91 => (intro w9; first | (go_simp; done) | (go_simp; with_reducible rfl))
                  try simp only [Act.put, List.setIfInBounds_toArray, List.set_cons_zero, List.set_cons_succ]
                  refine oneA (i := 7) (by kernel_rfl) ?_
                  refine opA (d := some 20) rfl rfl (by rfl) (fun K hK => ?_)
                  go_simp
                  refine hK.out _ _ ?_
                  clear hK K
                  try simp only [Act.put, List.setIfInBounds_toArray, List.set_cons_zero, List.set_cons_succ]
                  refine takeA (i := 13) (d := some 26) (v := ?v92) rfl rfl (by kernel_rfl) (by kernel_rfl) (by kernel_rfl) (fun _ _ _ h => h) (Or.inl ⟨by rfl, ?hy92⟩) ?rest92
                  case hy92 => (intro w9; first | (go_simp; done) | (go_simp; with_reducible rfl))
                  try simp only [Act.put, List.setIfInBounds_toArray, List.set_cons_zero, List.set_cons_succ]
                  refine takeA (i := 14) (d := some 27) (v := ?v93) rfl rfl (by kernel_rfl) (by kernel_rfl) (by kernel_rfl) (fun _ _ _ h => h) (Or.inl ⟨by rfl, ?hy93⟩) ?rest93
                  case hy93 => (intro w9; first | (go_simp; done) | (go_simp; with_reducible rfl))
                  try simp only [Act.put, List.setIfInBounds_toArray, List.set_cons_zero, List.set_cons_succ]
                  refine wpAny_done (by kernel_rfl) ?_ _
                  refine NoPanic.normal ?_
                  clear d0 d1
                  simp only [Exit.then]
                  go_wp2_with (first | refine wpList_load_row rfl 36 _ rfl L rfl _ _ _ _ HBL4.out Tryd.underlying36 rfl (fit Hz4.out) ?_ | (go_at_call 43; (with_reducible refine (HBy1.out _).mono ?_); rintro e w5 ⟨rfl, k5⟩; have HB5 := Lib.hid (HB4.out.below k5); clear k5) | (go_at_call 95; refine (HC2.out _ _ HB5.out.p HR2.out).mono ?_; rintro e w6 ⟨rfl, ⟨hx6, a6, ha6, hr6, p⟩, o⟩; have HB6 := Lib.hid (HB5.out.next (Nat.le_refl _) HG.out p o); have HX6 := Lib.hid hx6; clear p o hx6) | (go_at_call 43; (with_reducible refine (HBy2.out _).mono ?_); rintro e w7 ⟨rfl, k7⟩; have HB7 := Lib.hid (HB6.out.below k7); clear k7))
                  go_quiet (fail)
                  simp only [Exit.then]
                  obtain ⟨w8, hw8⟩ : ∃ w8, w8 = w7.drewN nq := ⟨_, rfl⟩
                  have HB8 := Lib.hid (show bS w w8 g s _ _ _ w.heap.size 36 (sv zero) from by rw [hw8]; exact HB7.out.below (below_draws _ _))
                  try rw [← hw8]
                  clear hw8
                  go_wp2
                  refine wp_region_noPanic ?_
                  refine wp_region_any (by kernel_rfl) ?_
                  show wpAny _ _ _ _ _ _ _ w8.drew
                  refine takeA (i := 0) (d := some 53) (v := ?v75b) rfl rfl (by kernel_rfl) (by kernel_rfl) (by kernel_rfl) (fun _ _ _ h => h) (Or.inl ⟨by rfl, ?hy75b⟩) ?rest75b
                  case hy75b => (intro w9; first | (go_simp; done) | (go_simp; with_reducible rfl))
                  try simp only [Act.put, List.setIfInBounds_toArray, List.set_cons_zero, List.set_cons_succ]
                  refine takeA (i := 1) (d := some 54) (v := .int .u8 (lo : Int)) rfl rfl (by kernel_rfl) (by kernel_rfl) (by kernel_rfl) (fun _ _ _ h => h) (Or.inl ⟨by rfl, ?hy76b⟩) ?rest76b
                  case hy76b => (intro w9; go_simp; intro hE; exact absurd hi1 (by rw [hE]; decide))
                  try simp only [Act.put, List.setIfInBounds_toArray, List.set_cons_zero, List.set_cons_succ]
                  refine takeA (i := 2) (d := some 55) (v := ?v77b) rfl rfl (by kernel_rfl) (by kernel_rfl) (by kernel_rfl) (fun _ _ _ h => h) (Or.inl ⟨by rfl, ?hy77b⟩) ?rest77b
                  case hy77b => (intro w9; first | (go_simp; done) | (go_simp; with_reducible rfl))
                  try simp only [Act.put, List.setIfInBounds_toArray, List.set_cons_zero, List.set_cons_succ]
                  refine takeA (i := 3) (d := some 56) (v := .int .u8 (hi : Int)) rfl rfl (by kernel_rfl) (by kernel_rfl) (by kernel_rfl) (fun _ _ _ h => h) (Or.inl ⟨by rfl, ?hy78b⟩) ?rest78b
                  case hy78b => (intro w9; go_simp; intro hE; exact absurd hi2 (by rw [hE]; decide))
                  try simp only [Act.put, List.setIfInBounds_toArray, List.set_cons_zero, List.set_cons_succ]
                  refine oneA (i := 4) (by kernel_rfl) ?_
                  refine opA (d := some 57) rfl rfl (by rfl) (fun K hK => ?_)
                  go_simp
                  go_at_call 78
                  refine (HRA.out _).mono ?_
                  rintro e w9 ⟨rfl, k9⟩
                  have HB9 := Lib.hid ((HB8.out.below (below_draws w8 1)).below k9)
                  clear k9
                  obtain ⟨e0, e1, e2, e3⟩ := cells4 (x0 := 0) (x1 := 0) (x2 := 0) (x3 := 0) HB9.out.b
                  have g0 := HB9.out.b.frozen 0
                  have g1 := HB9.out.b.frozen 1
                  have g2 := HB9.out.b.frozen 2
                  have g3 := HB9.out.b.frozen 3
                  refine hK.out _ _ ?_
                  clear hK K
                  try simp only [Act.put, List.setIfInBounds_toArray, List.set_cons_zero, List.set_cons_succ]
                  refine oneA (i := 5) (by kernel_rfl) ?_
                  refine opA (d := none) rfl rfl (by rfl) (fun K hK => ?_)
                  go_simp
                  refine hK.out _ _ ?_
                  clear hK K
                  try simp only [Act.put, List.setIfInBounds_toArray, List.set_cons_zero, List.set_cons_succ]
                  refine wpAny_done (by kernel_rfl) ?_ _
                  refine NoPanic.normal ?_
                  clear e0 e1 e2 e3 g0 g1 g2 g3
                  obtain ⟨wz, hwz⟩ : ∃ wz, wz = (((w9.setCell ⟨w.heap.size, 0, none⟩ (.int .u64 (v0 : Int))).setCell ⟨w.heap.size, 1, none⟩ (.int .u64 (v1 : Int))).setCell ⟨w.heap.size, 2, none⟩ (.int .u64 (v2 : Int))).setCell ⟨w.heap.size, 3, none⟩ (.int .u64 (v3 : Int)) := ⟨_, rfl⟩
                  have HW1 : Hid (Blk wz w.heap.size 36 (sv [v0, v1, v2, v3])) := Lib.hid (by rw [hwz]; exact store4 (x0 := 0) (x1 := 0) (x2 := 0) (x3 := 0) HB9.out.b)
                  have HW2 : Hid (Only (· = w.heap.size) w9 wz) := Lib.hid (by rw [hwz]; exact only4 _ _ _ _)
                  rw [← hwz]
                  clear hwz
                  simp only [Exit.then]
                  go_wp2
                  refine bodyPost_ret (v := .agg (sv [v0, v1, v2, v3])) (results_cell_row rfl _ _ w.heap.size 36 _ _ _ rfl HW1.out Tryd.underlying36 rfl (fit rfl)) rfl ?_
                  refine ⟨frm lo (hi + 1), by rw [HVE.out], ⟨frm_set _ _, ?_⟩, HB9.out.o.then HW2.out (fun i e h => absurd h (by omega))⟩
                  exact HT.out HO1.out HX6.out _ ⟨a6, ha6, Blk.only HB9.out.p HW2.out (by have := HG.out; omega), hr6⟩
            · have hn2a : ((F2.size : Int) != 1) = true := by simp; omega
              have HT : Hid (onlyO x.2 x.1 → onlyO y.2 y.1 → ∀ (z : List Nat) (u : World), dead u g s 18 (r3.length + 2) → itmB s g x (45 :: d :: r3) z u) := Lib.hid (fun h1 h2 z u h => HITM.out z u (by rw [only_some h1 hlo, only_none h2 (by rw [← HN2.out]; exact hn2)]; exact h))
              clear HF0 HG0 hn1 hn2 hlo HITM
              go_enter Tryd.func88, Tryd.ntmps88
              go_upto_region 1 with fail
              rw [← hw0]
              clear hw0
              go_upto_region 2 with (first | (go_at_call 95; refine (HCC.out _ HB0.out.p).mono ?_; rintro e w2 ⟨rfl, ⟨ho1, a1, ha1, hr1, p⟩, o⟩; have HB2 := Lib.hid (HB0.out.next (Nat.le_refl _) HG.out p o); clear p o) | (refine wpList_store_row rfl 36 _ _ rfl w2.heap.size z rfl rfl _ _ (zero4 w2) (fit Hz4.out) (Eq.trans (sv4 zero_set) Hz4.out.symm) Hz1.out ?_))
              obtain ⟨w3, hw3⟩ : ∃ w3, w3 = (w2.alloc (.cells #[.int .u64 0, .int .u64 0, .int .u64 0, .int .u64 0] 36)).setRow w2.heap.size z := ⟨_, rfl⟩
              obtain ⟨L, hL⟩ : ∃ L, L = w2.heap.size := ⟨_, rfl⟩
              have K3 : Below w2.heap.size w2 w3 := by rw [hw3]; exact Below_setRow (below_alloc w2 _) (Nat.le_refl _) _
              have HB3 := Lib.hid (HB2.out.below K3)
              have HBL : Hid (Blk w3 L 36 z) := Lib.hid (by rw [hw3, hL]; exact setRow_heap _ _ _ _ _ _ (zero4 w2))
              have HGL : Hid (L ≠ g ∧ L ≠ w.heap.size) := Lib.hid (by have h1 := HG.out; have h2 := Blk.lt HB2.out.b; omega)
              rw [← hw3, ← hL]
              clear hw3 K3 hL
              have HO1 := Lib.hid ho1
              have HA1 := Lib.hid ha1
              have HR1 := Lib.hid hr1
              clear ho1 ha1 hr1
              have d1 := HB3.out.p.c1
              have HX : Hid (nxQ ⟨#[45]⟩ (rst s a1) = true) := Lib.hid (nx_yes in_45 HR1.out rfl)
              have he := rst_len s a1
              rw [HR1.out] at he
              have hqe : ((a1 : Int) + 1 == (s.size : Int)) = false := by simp at he ⊢; omega
              have HEE : Hid (a1 + (r3.length + 2) = s.size) := Lib.hid (by simp at he; omega)
              clear he
              have HR2 : Hid (rst s (a1 + 1) = d :: r3) := Lib.hid (rst_next HR1.out).2.2.2
              go_wp2
              clear d1
              refine wp_region_noPanic ?_
              refine wp_region_any (by kernel_rfl) ?_
              show wpAny _ _ _ _ _ _ _ w3.drew
              refine takeA (i := 0) (d := some 13) (v := ?v94) rfl rfl (by kernel_rfl) (by kernel_rfl) (by kernel_rfl) (fun _ _ _ h => h) (Or.inl ⟨by rfl, ?hy94⟩) ?rest94
              case hy94 => (intro w9; first | (go_simp; done) | (go_simp; with_reducible rfl))
              try simp only [Act.put, List.setIfInBounds_toArray, List.set_cons_zero, List.set_cons_succ]
              refine oneA (i := 1) (by kernel_rfl) ?_
              refine opA (d := some 14) rfl rfl (by rfl) (fun K hK => ?_)
              go_simp
              go_at_call 34
              refine (take_yes hs HA1.out HX.out HB3.out.p.drew1).mono ?_
              rintro e w4 ⟨rfl, p, o⟩
              have HB4 := Lib.hid ((HB3.out.below (below_draws w3 1)).next (Nat.le_refl _) HG.out p o)
              have HBL4 : Hid (Blk w4 L 36 z) := Lib.hid (Blk.only (w := w3.drew) HBL.out o HGL.out.1)
              have d0 := HB4.out.p.c0
              have d1 : w4.cell? ⟨g, 1, none⟩ = some (.int .i64 ((a1 : Int) + 1)) := by have := HB4.out.p.c1; simpa using this
              clear p o
              refine hK.out _ _ ?_
              clear hK K
              try simp only [Act.put, List.setIfInBounds_toArray, List.set_cons_zero, List.set_cons_succ]
              refine takeA (i := 2) (d := some 15) (v := ?v95) rfl rfl (by kernel_rfl) (by kernel_rfl) (by kernel_rfl) (fun _ _ _ h => h) (Or.inl ⟨by rfl, ?hy95⟩) ?rest95
              case hy95 => (intro w9; first | (go_simp; done) | (go_simp; with_reducible rfl))
              try simp only [Act.put, List.setIfInBounds_toArray, List.set_cons_zero, List.set_cons_succ]
              refine takeA (i := 3) (d := some 16) (v := ?v96) rfl rfl (by kernel_rfl) (by kernel_rfl) (by kernel_rfl) (fun _ _ _ h => h) (Or.inl ⟨by rfl, ?hy96⟩) ?rest96
              case hy96 => (intro w9; first | (go_simp; done) | (go_simp; with_reducible rfl))
              try simp only [Act.put, List.setIfInBounds_toArray, List.set_cons_zero, List.set_cons_succ]
              refine takeA (i := 4) (d := some 17) (v := ?v97) rfl rfl (by kernel_rfl) (by kernel_rfl) (by kernel_rfl) (fun _ _ _ h => h) (Or.inl ⟨by rfl, ?hy97⟩) ?rest97
              case hy97 => (intro w9; first | (go_simp; done) | (go_simp; with_reducible rfl))
              try simp only [Act.put, List.setIfInBounds_toArray, List.set_cons_zero, List.set_cons_succ]
              refine takeA (i := 8) (d := some 21) (v := ?v98) rfl rfl (by kernel_rfl) (by kernel_rfl) (by kernel_rfl) (fun _ _ _ h => h) (Or.inl ⟨by rfl, ?hy98⟩) ?rest98
              case hy98 => (intro w9; first | (go_simp; done) | (go_simp; with_reducible rfl))
              try simp only [Act.put, List.setIfInBounds_toArray, List.set_cons_zero, List.set_cons_succ]
              refine takeA (i := 5) (d := some 18) (v := ?v99) rfl rfl (by kernel_rfl) (by kernel_rfl) (by kernel_rfl) (fun _ _ _ h => h) (Or.inl ⟨by rfl, ?hy99⟩) ?rest99
              case hy99 => (intro w9; first | (go_simp; done) | (go_simp; with_reducible rfl))
              try simp only [Act.put, List.setIfInBounds_toArray, List.set_cons_zero, List.set_cons_succ]
              refine takeA (i := 9) (d := some 22) (v := ?v100) rfl rfl (by kernel_rfl) (by kernel_rfl) (by kernel_rfl) (fun _ _ _ h => h) (Or.inl ⟨by rfl, ?hy100⟩) ?rest100
              case hy100 => (intro w9; first | (go_simp; done) | (go_simp; with_reducible rfl))
              try simp only [Act.put, List.setIfInBounds_toArray, List.set_cons_zero, List.set_cons_succ]
              refine takeA (i := 6) (d := some 19) (v := ?v101) rfl rfl (by kernel_rfl) (by kernel_rfl) (by kernel_rfl) (fun _ _ _ h => h) (Or.inl ⟨by rfl, ?hy101⟩) ?rest101
              case hy101 => (intro w9; first | (go_simp; done) | (go_simp; with_reducible rfl))
              try simp only [Act.put, List.setIfInBounds_toArray, List.set_cons_zero, List.set_cons_succ]
              refine takeA (i := 10) (d := some 23) (v := ?v102) rfl rfl (by kernel_rfl) (by kernel_rfl) (by kernel_rfl) (fun _ _ _ h => h) (Or.inl ⟨by rfl, ?hy102⟩) ?rest102
              case hy102 => (intro w9; first | (go_simp; done) | (go_simp; with_reducible rfl))
              try simp only [Act.put, List.setIfInBounds_toArray, List.set_cons_zero, List.set_cons_succ]
              refine twoA (i := 7) (j := 11) (by kernel_rfl) ?_ ?_
              · skip
                refine opA (d := some 20) rfl rfl (by rfl) (fun K hK => ?_)
                go_simp
                refine hK.out _ _ ?_
                clear hK K
                try simp only [Act.put, List.setIfInBounds_toArray, List.set_cons_zero, List.set_cons_succ]
                refine oneA (i := 11) (by kernel_rfl) ?_
                refine opA (d := some 24) rfl rfl (by rfl) (fun K hK => ?_)
                go_simp
                refine hK.out _ _ ?_
                clear hK K
                try simp only [Act.put, List.setIfInBounds_toArray, List.set_cons_zero, List.set_cons_succ]
                refine takeA (i := 12) (d := some 25) (v := ?v103) rfl rfl (by kernel_rfl) (by kernel_rfl) (by kernel_rfl) (fun _ _ _ h => h) (Or.inl ⟨by rfl, ?hy103⟩) ?rest103
                case hy103 => (intro w9; first | (go_simp; done) | (go_simp; with_reducible rfl))
                try simp only [Act.put, List.setIfInBounds_toArray, List.set_cons_zero, List.set_cons_succ]
                refine takeA (i := 13) (d := some 26) (v := ?v104) rfl rfl (by kernel_rfl) (by kernel_rfl) (by kernel_rfl) (fun _ _ _ h => h) (Or.inl ⟨by rfl, ?hy104⟩) ?rest104
                case hy104 => (intro w9; first | (go_simp; done) | (go_simp; with_reducible rfl))
                try simp only [Act.put, List.setIfInBounds_toArray, List.set_cons_zero, List.set_cons_succ]
                refine takeA (i := 14) (d := some 27) (v := ?v105) rfl rfl (by kernel_rfl) (by kernel_rfl) (by kernel_rfl) (fun _ _ _ h => h) (Or.inl ⟨by rfl, ?hy105⟩) ?rest105
                case hy105 => (intro w9; first | (go_simp; done) | (go_simp; with_reducible rfl))
                try simp only [Act.put, List.setIfInBounds_toArray, List.set_cons_zero, List.set_cons_succ]
                refine wpAny_done (by kernel_rfl) ?_ _
                refine NoPanic.normal ?_
                clear d0 d1
                simp only [Exit.then]
                go_wp2_with (first | refine wpList_load_row rfl 36 _ rfl L rfl _ _ _ _ HBL4.out Tryd.underlying36 rfl (fit Hz4.out) ?_ | (go_at_call 43; (with_reducible refine (HBy1.out _).mono ?_); rintro e w5 ⟨rfl, k5⟩; have HB5 := Lib.hid (HB4.out.below k5); clear k5) | (go_at_call 95; refine (HC2.out _ _ HB5.out.p HR2.out).mono ?_; rintro e w6 ⟨rfl, ⟨hx6, a6, ha6, hr6, p⟩, o⟩; have HB6 := Lib.hid (HB5.out.next (Nat.le_refl _) HG.out p o); have HX6 := Lib.hid hx6; clear p o hx6) | (go_at_call 43; (with_reducible refine (HBy2.out _).mono ?_); rintro e w7 ⟨rfl, k7⟩; have HB7 := Lib.hid (HB6.out.below k7); clear k7))
                go_quiet (fail)
                simp only [Exit.then]
                obtain ⟨w8, hw8⟩ : ∃ w8, w8 = w7.drewN nq := ⟨_, rfl⟩
                have HB8 := Lib.hid (show bS w w8 g s _ _ _ w.heap.size 36 (sv zero) from by rw [hw8]; exact HB7.out.below (below_draws _ _))
                try rw [← hw8]
                clear hw8
                go_wp2_with (first | (go_at_call 23; refine (fail_first _ _ HB8.out.p).mono ?_; rintro e w9 ⟨rfl, p, o⟩; have HB9 := Lib.hid (HB8.out.next (Nat.le_refl _) HG.out p o); clear p o) | (refine wpList_store_row rfl 36 _ _ rfl w.heap.size (sv zero) rfl rfl _ _ HB9.out.b (fit (sv4 zero_set)) rfl (sv_one _) ?_))
                refine bodyPost_ret (v := .agg (sv zero)) (results_cell_row rfl _ _ w.heap.size 36 _ _ _ rfl (setRow_heap _ _ _ _ _ _ HB9.out.b) Tryd.underlying36 rfl (fit (sv4 zero_set))) rfl ?_
                refine ⟨zero, rfl, ⟨zero_set, ?_⟩, only_row HB9.out.o (Nat.le_refl _) _⟩
                exact HT.out HO1.out HX6.out _ _ (dead_at (a := a1) (by decide) (par_row HB9.out.p (by have := HG.out; omega) _) (by have := HEE.out; omega))
              · skip
                refine opA (d := some 24) rfl rfl (by rfl) (fun K hK => ?_)
                go_simp
                refine hK.out _ _ ?_
                clear hK K
                try simp only [Act.put, List.setIfInBounds_toArray, List.set_cons_zero, List.set_cons_succ]
                refine takeA (i := 12) (d := some 25) (v := ?v106) rfl rfl (by kernel_rfl) (by kernel_rfl) (by kernel_rfl) (fun _ _ _ h => h) (Or.inl ⟨by rfl, ?hy106⟩) ?rest106
                case hy106 => (intro w9; first | (go_simp; done) | (go_simp; with_reducible rfl))
                try simp only [Act.put, List.setIfInBounds_toArray, List.set_cons_zero, List.set_cons_succ]
                refine oneA (i := 7) (by kernel_rfl) ?_
                refine opA (d := some 20) rfl rfl (by rfl) (fun K hK => ?_)
                go_simp
                refine hK.out _ _ ?_
                clear hK K
                try simp only [Act.put, List.setIfInBounds_toArray, List.set_cons_zero, List.set_cons_succ]
                refine takeA (i := 13) (d := some 26) (v := ?v107) rfl rfl (by kernel_rfl) (by kernel_rfl) (by kernel_rfl) (fun _ _ _ h => h) (Or.inl ⟨by rfl, ?hy107⟩) ?rest107
                case hy107 => (intro w9; first | (go_simp; done) | (go_simp; with_reducible rfl))
                try simp only [Act.put, List.setIfInBounds_toArray, List.set_cons_zero, List.set_cons_succ]
                refine takeA (i := 14) (d := some 27) (v := ?v108) rfl rfl (by kernel_rfl) (by kernel_rfl) (by kernel_rfl) (fun _ _ _ h => h) (Or.inl ⟨by rfl, ?hy108⟩) ?rest108
                case hy108 => (intro w9; first | (go_simp; done) | (go_simp; with_reducible rfl))
                try simp only [Act.put, List.setIfInBounds_toArray, List.set_cons_zero, List.set_cons_succ]
                refine wpAny_done (by kernel_rfl) ?_ _
                refine NoPanic.normal ?_
                clear d0 d1
                simp only [Exit.then]
                go_wp2_with (first | refine wpList_load_row rfl 36 _ rfl L rfl _ _ _ _ HBL4.out Tryd.underlying36 rfl (fit Hz4.out) ?_ | (go_at_call 43; (with_reducible refine (HBy1.out _).mono ?_); rintro e w5 ⟨rfl, k5⟩; have HB5 := Lib.hid (HB4.out.below k5); clear k5) | (go_at_call 95; refine (HC2.out _ _ HB5.out.p HR2.out).mono ?_; rintro e w6 ⟨rfl, ⟨hx6, a6, ha6, hr6, p⟩, o⟩; have HB6 := Lib.hid (HB5.out.next (Nat.le_refl _) HG.out p o); have HX6 := Lib.hid hx6; clear p o hx6) | (go_at_call 43; (with_reducible refine (HBy2.out _).mono ?_); rintro e w7 ⟨rfl, k7⟩; have HB7 := Lib.hid (HB6.out.below k7); clear k7))
                go_quiet (fail)
                simp only [Exit.then]
                obtain ⟨w8, hw8⟩ : ∃ w8, w8 = w7.drewN nq := ⟨_, rfl⟩
                have HB8 := Lib.hid (show bS w w8 g s _ _ _ w.heap.size 36 (sv zero) from by rw [hw8]; exact HB7.out.below (below_draws _ _))
                try rw [← hw8]
                clear hw8
                go_wp2_with (first | (go_at_call 23; refine (fail_first _ _ HB8.out.p).mono ?_; rintro e w9 ⟨rfl, p, o⟩; have HB9 := Lib.hid (HB8.out.next (Nat.le_refl _) HG.out p o); clear p o) | (refine wpList_store_row rfl 36 _ _ rfl w.heap.size (sv zero) rfl rfl _ _ HB9.out.b (fit (sv4 zero_set)) rfl (sv_one _) ?_))
                refine bodyPost_ret (v := .agg (sv zero)) (results_cell_row rfl _ _ w.heap.size 36 _ _ _ rfl (setRow_heap _ _ _ _ _ _ HB9.out.b) Tryd.underlying36 rfl (fit (sv4 zero_set))) rfl ?_
                refine ⟨zero, rfl, ⟨zero_set, ?_⟩, only_row HB9.out.o (Nat.le_refl _) _⟩
                exact HT.out HO1.out HX6.out _ _ (dead_at (a := a1) (by decide) (par_row HB9.out.p (by have := HG.out; omega) _) (by have := HEE.out; omega))
          · have hn1a : ((F1.size : Int) != 1) = true := by simp; omega
            have HT : Hid (onlyO x.2 x.1 → ∀ (z : List Nat) (u : World), dead u g s 18 (r3.length + 2) → itmB s g x (45 :: d :: r3) z u) := Lib.hid (fun h1 z u h => HITM.out z u (by rw [only_none h1 (by rw [← HN1.out]; exact hn1)]; exact h))
            clear HF0 HG0 hn1 HITM
            go_enter Tryd.func88, Tryd.ntmps88
            go_upto_region 1 with fail
            rw [← hw0]
            clear hw0
            go_upto_region 2 with (first | (go_at_call 95; refine (HCC.out _ HB0.out.p).mono ?_; rintro e w2 ⟨rfl, ⟨ho1, a1, ha1, hr1, p⟩, o⟩; have HB2 := Lib.hid (HB0.out.next (Nat.le_refl _) HG.out p o); clear p o) | (refine wpList_store_row rfl 36 _ _ rfl w2.heap.size z rfl rfl _ _ (zero4 w2) (fit Hz4.out) (Eq.trans (sv4 zero_set) Hz4.out.symm) Hz1.out ?_))
            obtain ⟨w3, hw3⟩ : ∃ w3, w3 = (w2.alloc (.cells #[.int .u64 0, .int .u64 0, .int .u64 0, .int .u64 0] 36)).setRow w2.heap.size z := ⟨_, rfl⟩
            obtain ⟨L, hL⟩ : ∃ L, L = w2.heap.size := ⟨_, rfl⟩
            have K3 : Below w2.heap.size w2 w3 := by rw [hw3]; exact Below_setRow (below_alloc w2 _) (Nat.le_refl _) _
            have HB3 := Lib.hid (HB2.out.below K3)
            have HBL : Hid (Blk w3 L 36 z) := Lib.hid (by rw [hw3, hL]; exact setRow_heap _ _ _ _ _ _ (zero4 w2))
            have HGL : Hid (L ≠ g ∧ L ≠ w.heap.size) := Lib.hid (by have h1 := HG.out; have h2 := Blk.lt HB2.out.b; omega)
            rw [← hw3, ← hL]
            clear hw3 K3 hL
            have HO1 := Lib.hid ho1
            have HA1 := Lib.hid ha1
            have HR1 := Lib.hid hr1
            clear ho1 ha1 hr1
            have d1 := HB3.out.p.c1
            have HX : Hid (nxQ ⟨#[45]⟩ (rst s a1) = true) := Lib.hid (nx_yes in_45 HR1.out rfl)
            have he := rst_len s a1
            rw [HR1.out] at he
            have hqe : ((a1 : Int) + 1 == (s.size : Int)) = false := by simp at he ⊢; omega
            have HEE : Hid (a1 + (r3.length + 2) = s.size) := Lib.hid (by simp at he; omega)
            clear he
            have HR2 : Hid (rst s (a1 + 1) = d :: r3) := Lib.hid (rst_next HR1.out).2.2.2
            go_wp2
            clear d1
            refine wp_region_noPanic ?_
            refine wp_region_any (by kernel_rfl) ?_
            show wpAny _ _ _ _ _ _ _ w3.drew
            refine takeA (i := 0) (d := some 13) (v := ?v109) rfl rfl (by kernel_rfl) (by kernel_rfl) (by kernel_rfl) (fun _ _ _ h => h) (Or.inl ⟨by rfl, ?hy109⟩) ?rest109
            case hy109 => (intro w9; first | (go_simp; done) | (go_simp; with_reducible rfl))
            try simp only [Act.put, List.setIfInBounds_toArray, List.set_cons_zero, List.set_cons_succ]
            refine oneA (i := 1) (by kernel_rfl) ?_
            refine opA (d := some 14) rfl rfl (by rfl) (fun K hK => ?_)
            go_simp
            go_at_call 34
            refine (take_yes hs HA1.out HX.out HB3.out.p.drew1).mono ?_
            rintro e w4 ⟨rfl, p, o⟩
            have HB4 := Lib.hid ((HB3.out.below (below_draws w3 1)).next (Nat.le_refl _) HG.out p o)
            have HBL4 : Hid (Blk w4 L 36 z) := Lib.hid (Blk.only (w := w3.drew) HBL.out o HGL.out.1)
            have d0 := HB4.out.p.c0
            have d1 : w4.cell? ⟨g, 1, none⟩ = some (.int .i64 ((a1 : Int) + 1)) := by have := HB4.out.p.c1; simpa using this
            clear p o
            refine hK.out _ _ ?_
            clear hK K
            try simp only [Act.put, List.setIfInBounds_toArray, List.set_cons_zero, List.set_cons_succ]
            refine takeA (i := 2) (d := some 15) (v := ?v110) rfl rfl (by kernel_rfl) (by kernel_rfl) (by kernel_rfl) (fun _ _ _ h => h) (Or.inl ⟨by rfl, ?hy110⟩) ?rest110
            case hy110 => (intro w9; first | (go_simp; done) | (go_simp; with_reducible rfl))
            try simp only [Act.put, List.setIfInBounds_toArray, List.set_cons_zero, List.set_cons_succ]
            refine takeA (i := 3) (d := some 16) (v := ?v111) rfl rfl (by kernel_rfl) (by kernel_rfl) (by kernel_rfl) (fun _ _ _ h => h) (Or.inl ⟨by rfl, ?hy111⟩) ?rest111
            case hy111 => (intro w9; first | (go_simp; done) | (go_simp; with_reducible rfl))
            try simp only [Act.put, List.setIfInBounds_toArray, List.set_cons_zero, List.set_cons_succ]
            refine takeA (i := 4) (d := some 17) (v := ?v112) rfl rfl (by kernel_rfl) (by kernel_rfl) (by kernel_rfl) (fun _ _ _ h => h) (Or.inl ⟨by rfl, ?hy112⟩) ?rest112
            case hy112 => (intro w9; first | (go_simp; done) | (go_simp; with_reducible rfl))
            try simp only [Act.put, List.setIfInBounds_toArray, List.set_cons_zero, List.set_cons_succ]
            refine takeA (i := 8) (d := some 21) (v := ?v113) rfl rfl (by kernel_rfl) (by kernel_rfl) (by kernel_rfl) (fun _ _ _ h => h) (Or.inl ⟨by rfl, ?hy113⟩) ?rest113
            case hy113 => (intro w9; first | (go_simp; done) | (go_simp; with_reducible rfl))
            try simp only [Act.put, List.setIfInBounds_toArray, List.set_cons_zero, List.set_cons_succ]
            refine takeA (i := 5) (d := some 18) (v := ?v114) rfl rfl (by kernel_rfl) (by kernel_rfl) (by kernel_rfl) (fun _ _ _ h => h) (Or.inl ⟨by rfl, ?hy114⟩) ?rest114
            case hy114 => (intro w9; first | (go_simp; done) | (go_simp; with_reducible rfl))
            try simp only [Act.put, List.setIfInBounds_toArray, List.set_cons_zero, List.set_cons_succ]
            refine takeA (i := 9) (d := some 22) (v := ?v115) rfl rfl (by kernel_rfl) (by kernel_rfl) (by kernel_rfl) (fun _ _ _ h => h) (Or.inl ⟨by rfl, ?hy115⟩) ?rest115
            case hy115 => (intro w9; first | (go_simp; done) | (go_simp; with_reducible rfl))
            try simp only [Act.put, List.setIfInBounds_toArray, List.set_cons_zero, List.set_cons_succ]
            refine takeA (i := 6) (d := some 19) (v := ?v116) rfl rfl (by kernel_rfl) (by kernel_rfl) (by kernel_rfl) (fun _ _ _ h => h) (Or.inl ⟨by rfl, ?hy116⟩) ?rest116
            case hy116 => (intro w9; first | (go_simp; done) | (go_simp; with_reducible rfl))
            try simp only [Act.put, List.setIfInBounds_toArray, List.set_cons_zero, List.set_cons_succ]
            refine takeA (i := 10) (d := some 23) (v := ?v117) rfl rfl (by kernel_rfl) (by kernel_rfl) (by kernel_rfl) (fun _ _ _ h => h) (Or.inl ⟨by rfl, ?hy117⟩) ?rest117
            case hy117 => (intro w9; first | (go_simp; done) | (go_simp; with_reducible rfl))
            try simp only [Act.put, List.setIfInBounds_toArray, List.set_cons_zero, List.set_cons_succ]
            refine twoA (i := 7) (j := 11) (by kernel_rfl) ?_ ?_
            · skip
              refine opA (d := some 20) rfl rfl (by rfl) (fun K hK => ?_)
              go_simp
              refine hK.out _ _ ?_
              clear hK K
              try simp only [Act.put, List.setIfInBounds_toArray, List.set_cons_zero, List.set_cons_succ]
              refine oneA (i := 11) (by kernel_rfl) ?_
              refine opA (d := some 24) rfl rfl (by rfl) (fun K hK => ?_)
              go_simp
              refine hK.out _ _ ?_
              clear hK K
              try simp only [Act.put, List.setIfInBounds_toArray, List.set_cons_zero, List.set_cons_succ]
              refine takeA (i := 12) (d := some 25) (v := ?v118) rfl rfl (by kernel_rfl) (by kernel_rfl) (by kernel_rfl) (fun _ _ _ h => h) (Or.inl ⟨by rfl, ?hy118⟩) ?rest118
              case hy118 => (intro w9; first | (go_simp; done) | (go_simp; with_reducible rfl))
              try simp only [Act.put, List.setIfInBounds_toArray, List.set_cons_zero, List.set_cons_succ]
              refine takeA (i := 13) (d := some 26) (v := ?v119) rfl rfl (by kernel_rfl) (by kernel_rfl) (by kernel_rfl) (fun _ _ _ h => h) (Or.inl ⟨by rfl, ?hy119⟩) ?rest119
              case hy119 => (intro w9; first | (go_simp; done) | (go_simp; with_reducible rfl))
              try simp only [Act.put, List.setIfInBounds_toArray, List.set_cons_zero, List.set_cons_succ]
              refine takeA (i := 14) (d := some 27) (v := ?v120) rfl rfl (by kernel_rfl) (by kernel_rfl) (by kernel_rfl) (fun _ _ _ h => h) (Or.inl ⟨by rfl, ?hy120⟩) ?rest120
              case hy120 => (intro w9; first | (go_simp; done) | (go_simp; with_reducible rfl))
              try simp only [Act.put, List.setIfInBounds_toArray, List.set_cons_zero, List.set_cons_succ]
              refine wpAny_done (by kernel_rfl) ?_ _
              refine NoPanic.normal ?_
              clear d0 d1
              simp only [Exit.then]
              go_wp2_with (first | refine wpList_load_row rfl 36 _ rfl L rfl _ _ _ _ HBL4.out Tryd.underlying36 rfl (fit Hz4.out) ?_ | (go_at_call 43; (with_reducible refine (HBy1.out _).mono ?_); rintro e w5 ⟨rfl, k5⟩; have HB5 := Lib.hid (HB4.out.below k5); clear k5) | (go_at_call 95; refine (HC2.out _ _ HB5.out.p HR2.out).mono ?_; rintro e w6 ⟨rfl, ⟨hx6, a6, ha6, hr6, p⟩, o⟩; have HB6 := Lib.hid (HB5.out.next (Nat.le_refl _) HG.out p o); have HX6 := Lib.hid hx6; clear p o hx6) | (go_at_call 43; (with_reducible refine (HBy2.out _).mono ?_); rintro e w7 ⟨rfl, k7⟩; have HB7 := Lib.hid (HB6.out.below k7); clear k7))
              go_quiet (fail)
              simp only [Exit.then]
              obtain ⟨w8, hw8⟩ : ∃ w8, w8 = w7.drewN nq := ⟨_, rfl⟩
              have HB8 := Lib.hid (show bS w w8 g s _ _ _ w.heap.size 36 (sv zero) from by rw [hw8]; exact HB7.out.below (below_draws _ _))
              try rw [← hw8]
              clear hw8
              go_wp2_with (first | (go_at_call 23; refine (fail_first _ _ HB8.out.p).mono ?_; rintro e w9 ⟨rfl, p, o⟩; have HB9 := Lib.hid (HB8.out.next (Nat.le_refl _) HG.out p o); clear p o) | (refine wpList_store_row rfl 36 _ _ rfl w.heap.size (sv zero) rfl rfl _ _ HB9.out.b (fit (sv4 zero_set)) rfl (sv_one _) ?_))
              refine bodyPost_ret (v := .agg (sv zero)) (results_cell_row rfl _ _ w.heap.size 36 _ _ _ rfl (setRow_heap _ _ _ _ _ _ HB9.out.b) Tryd.underlying36 rfl (fit (sv4 zero_set))) rfl ?_
              refine ⟨zero, rfl, ⟨zero_set, ?_⟩, only_row HB9.out.o (Nat.le_refl _) _⟩
              exact HT.out HO1.out _ _ (dead_at (a := a1) (by decide) (par_row HB9.out.p (by have := HG.out; omega) _) (by have := HEE.out; omega))
            · skip
              refine opA (d := some 24) rfl rfl (by rfl) (fun K hK => ?_)
              go_simp
              refine hK.out _ _ ?_
              clear hK K
              try simp only [Act.put, List.setIfInBounds_toArray, List.set_cons_zero, List.set_cons_succ]
              refine takeA (i := 12) (d := some 25) (v := ?v121) rfl rfl (by kernel_rfl) (by kernel_rfl) (by kernel_rfl) (fun _ _ _ h => h) (Or.inl ⟨by rfl, ?hy121⟩) ?rest121
              case hy121 => (intro w9; first | (go_simp; done) | (go_simp; with_reducible rfl))
              try simp only [Act.put, List.setIfInBounds_toArray, List.set_cons_zero, List.set_cons_succ]
              refine oneA (i := 7) (by kernel_rfl) ?_
              refine opA (d := some 20) rfl rfl (by rfl) (fun K hK => ?_)
              go_simp
              refine hK.out _ _ ?_
              clear hK K
              try simp only [Act.put, List.setIfInBounds_toArray, List.set_cons_zero, List.set_cons_succ]
              refine takeA (i := 13) (d := some 26) (v := ?v122) rfl rfl (by kernel_rfl) (by kernel_rfl) (by kernel_rfl) (fun _ _ _ h => h) (Or.inl ⟨by rfl, ?hy122⟩) ?rest122
              case hy122 => (intro w9; first | (go_simp; done) | (go_simp; with_reducible rfl))
              try simp only [Act.put, List.setIfInBounds_toArray, List.set_cons_zero, List.set_cons_succ]
              refine takeA (i := 14) (d := some 27) (v := ?v123) rfl rfl (by kernel_rfl) (by kernel_rfl) (by kernel_rfl) (fun _ _ _ h => h) (Or.inl ⟨by rfl, ?hy123⟩) ?rest123
              case hy123 => (intro w9; first | (go_simp; done) | (go_simp; with_reducible rfl))
              try simp only [Act.put, List.setIfInBounds_toArray, List.set_cons_zero, List.set_cons_succ]
              refine wpAny_done (by kernel_rfl) ?_ _
              refine NoPanic.normal ?_
              clear d0 d1
              simp only [Exit.then]
              go_wp2_with (first | refine wpList_load_row rfl 36 _ rfl L rfl _ _ _ _ HBL4.out Tryd.underlying36 rfl (fit Hz4.out) ?_ | (go_at_call 43; (with_reducible refine (HBy1.out _).mono ?_); rintro e w5 ⟨rfl, k5⟩; have HB5 := Lib.hid (HB4.out.below k5); clear k5) | (go_at_call 95; refine (HC2.out _ _ HB5.out.p HR2.out).mono ?_; rintro e w6 ⟨rfl, ⟨hx6, a6, ha6, hr6, p⟩, o⟩; have HB6 := Lib.hid (HB5.out.next (Nat.le_refl _) HG.out p o); have HX6 := Lib.hid hx6; clear p o hx6) | (go_at_call 43; (with_reducible refine (HBy2.out _).mono ?_); rintro e w7 ⟨rfl, k7⟩; have HB7 := Lib.hid (HB6.out.below k7); clear k7))
              go_quiet (fail)
              simp only [Exit.then]
              obtain ⟨w8, hw8⟩ : ∃ w8, w8 = w7.drewN nq := ⟨_, rfl⟩
              have HB8 := Lib.hid (show bS w w8 g s _ _ _ w.heap.size 36 (sv zero) from by rw [hw8]; exact HB7.out.below (below_draws _ _))
              try rw [← hw8]
              clear hw8
              go_wp2_with (first | (go_at_call 23; refine (fail_first _ _ HB8.out.p).mono ?_; rintro e w9 ⟨rfl, p, o⟩; have HB9 := Lib.hid (HB8.out.next (Nat.le_refl _) HG.out p o); clear p o) | (refine wpList_store_row rfl 36 _ _ rfl w.heap.size (sv zero) rfl rfl _ _ HB9.out.b (fit (sv4 zero_set)) rfl (sv_one _) ?_))
              refine bodyPost_ret (v := .agg (sv zero)) (results_cell_row rfl _ _ w.heap.size 36 _ _ _ rfl (setRow_heap _ _ _ _ _ _ HB9.out.b) Tryd.underlying36 rfl (fit (sv4 zero_set))) rfl ?_
              refine ⟨zero, rfl, ⟨zero_set, ?_⟩, only_row HB9.out.o (Nat.le_refl _) _⟩
              exact HT.out HO1.out _ _ (dead_at (a := a1) (by decide) (par_row HB9.out.p (by have := HG.out; omega) _) (by have := HEE.out; omega))
    · have hm2 : ∀ r2, r1 ≠ 45 :: r2 := fun r2 e => hm ⟨r2, e⟩
      have HM2 := Lib.hid hm2
      clear hm hm2
      go_enter Tryd.func88, Tryd.ntmps88
      go_upto_region 1 with fail
      rw [← hw0]
      clear hw0
      go_upto_region 2 with (first | (go_at_call 95; refine (HCC.out _ HB0.out.p).mono ?_; rintro e w2 ⟨rfl, ⟨ho1, a1, ha1, hr1, p⟩, o⟩; have HB2 := Lib.hid (HB0.out.next (Nat.le_refl _) HG.out p o); clear p o) | (refine wpList_store_row rfl 36 _ _ rfl w2.heap.size z rfl rfl _ _ (zero4 w2) (fit Hz4.out) (Eq.trans (sv4 zero_set) Hz4.out.symm) Hz1.out ?_))
      obtain ⟨w3, hw3⟩ : ∃ w3, w3 = (w2.alloc (.cells #[.int .u64 0, .int .u64 0, .int .u64 0, .int .u64 0] 36)).setRow w2.heap.size z := ⟨_, rfl⟩
      obtain ⟨L, hL⟩ : ∃ L, L = w2.heap.size := ⟨_, rfl⟩
      have K3 : Below w2.heap.size w2 w3 := by rw [hw3]; exact Below_setRow (below_alloc w2 _) (Nat.le_refl _) _
      have HB3 := Lib.hid (HB2.out.below K3)
      have HBL : Hid (Blk w3 L 36 z) := Lib.hid (by rw [hw3, hL]; exact setRow_heap _ _ _ _ _ _ (zero4 w2))
      have HGL : Hid (L ≠ g ∧ L ≠ w.heap.size) := Lib.hid (by have h1 := HG.out; have h2 := Blk.lt HB2.out.b; omega)
      rw [← hw3, ← hL]
      clear hw3 K3 hL
      have HO1 := Lib.hid ho1
      have HA1 := Lib.hid ha1
      have HR1 := Lib.hid hr1
      clear ho1 ha1 hr1
      have d1 := HB3.out.p.c1
      have HX : Hid (nxQ ⟨#[45]⟩ (rst s a1) = false) := Lib.hid (by
        cases hc : r1 with
        | nil => exact nx_end (by rw [HR1.out, hc])
        | cons c2 r2 => exact nx_no in_45 (by rw [HR1.out, hc]) (fun e => HM2.out r2 (by rw [hc, e])))
      go_wp2
      clear d1
      refine wp_region_noPanic ?_
      refine wp_region_any (by kernel_rfl) ?_
      show wpAny _ _ _ _ _ _ _ w3.drew
      refine takeA (i := 0) (d := some 13) (v := ?v124) rfl rfl (by kernel_rfl) (by kernel_rfl) (by kernel_rfl) (fun _ _ _ h => h) (Or.inl ⟨by rfl, ?hy124⟩) ?rest124
      case hy124 => (intro w9; first | (go_simp; done) | (go_simp; with_reducible rfl))
      try simp only [Act.put, List.setIfInBounds_toArray, List.set_cons_zero, List.set_cons_succ]
      refine oneA (i := 1) (by kernel_rfl) ?_
      refine opA (d := some 14) rfl rfl (by rfl) (fun K hK => ?_)
      go_simp
      go_at_call 34
      refine (take_no hs HA1.out HX.out HB3.out.p.drew1).mono ?_
      rintro e w4 ⟨rfl, p, o⟩
      have HB4 := Lib.hid ((HB3.out.below (below_draws w3 1)).next (Nat.le_refl _) HG.out p o)
      have HBL4 : Hid (Blk w4 L 36 z) := Lib.hid (Blk.only (w := w3.drew) HBL.out o HGL.out.1)
      clear p o
      refine hK.out _ _ ?_
      clear hK K
      try simp only [Act.put, List.setIfInBounds_toArray, List.set_cons_zero, List.set_cons_succ]
      refine takeA (i := 2) (d := some 15) (v := ?v125) rfl rfl (by kernel_rfl) (by kernel_rfl) (by kernel_rfl) (fun _ _ _ h => h) (Or.inl ⟨by rfl, ?hy125⟩) ?rest125
      case hy125 => (intro w9; first | (go_simp; done) | (go_simp; with_reducible rfl))
      try simp only [Act.put, List.setIfInBounds_toArray, List.set_cons_zero, List.set_cons_succ]
      refine takeA (i := 3) (d := some 16) (v := ?v126) rfl rfl (by kernel_rfl) (by kernel_rfl) (by kernel_rfl) (fun _ _ _ h => h) (Or.inl ⟨by rfl, ?hy126⟩) ?rest126
      case hy126 => (intro w9; first | (go_simp; done) | (go_simp; with_reducible rfl))
      try simp only [Act.put, List.setIfInBounds_toArray, List.set_cons_zero, List.set_cons_succ]
      refine takeA (i := 4) (d := some 17) (v := undef) rfl rfl (by kernel_rfl) (by kernel_rfl) (by kernel_rfl) (fun _ _ _ h => h) (Or.inr ⟨by rfl, rfl⟩) ?_
      try simp only [Act.put, List.setIfInBounds_toArray, List.set_cons_zero, List.set_cons_succ]
      refine takeA (i := 8) (d := some 21) (v := undef) rfl rfl (by kernel_rfl) (by kernel_rfl) (by kernel_rfl) (fun _ _ _ h => h) (Or.inr ⟨by rfl, rfl⟩) ?_
      try simp only [Act.put, List.setIfInBounds_toArray, List.set_cons_zero, List.set_cons_succ]
      refine takeA (i := 5) (d := some 18) (v := undef) rfl rfl (by kernel_rfl) (by kernel_rfl) (by kernel_rfl) (fun _ _ _ h => h) (Or.inr ⟨by rfl, rfl⟩) ?_
      try simp only [Act.put, List.setIfInBounds_toArray, List.set_cons_zero, List.set_cons_succ]
      refine takeA (i := 9) (d := some 22) (v := undef) rfl rfl (by kernel_rfl) (by kernel_rfl) (by kernel_rfl) (fun _ _ _ h => h) (Or.inr ⟨by rfl, rfl⟩) ?_
      try simp only [Act.put, List.setIfInBounds_toArray, List.set_cons_zero, List.set_cons_succ]
      refine takeA (i := 6) (d := some 19) (v := undef) rfl rfl (by kernel_rfl) (by kernel_rfl) (by kernel_rfl) (fun _ _ _ h => h) (Or.inr ⟨by rfl, rfl⟩) ?_
      try simp only [Act.put, List.setIfInBounds_toArray, List.set_cons_zero, List.set_cons_succ]
      refine takeA (i := 10) (d := some 23) (v := undef) rfl rfl (by kernel_rfl) (by kernel_rfl) (by kernel_rfl) (fun _ _ _ h => h) (Or.inr ⟨by rfl, rfl⟩) ?_
      try simp only [Act.put, List.setIfInBounds_toArray, List.set_cons_zero, List.set_cons_succ]
      refine takeA (i := 7) (d := some 20) (v := undef) rfl rfl (by kernel_rfl) (by kernel_rfl) (by kernel_rfl) (fun _ _ _ h => h) (Or.inr ⟨by rfl, rfl⟩) ?_
      try simp only [Act.put, List.setIfInBounds_toArray, List.set_cons_zero, List.set_cons_succ]
      refine takeA (i := 11) (d := some 24) (v := undef) rfl rfl (by kernel_rfl) (by kernel_rfl) (by kernel_rfl) (fun _ _ _ h => h) (Or.inr ⟨by rfl, rfl⟩) ?_
      try simp only [Act.put, List.setIfInBounds_toArray, List.set_cons_zero, List.set_cons_succ]
      refine takeA (i := 12) (d := some 25) (v := undef) rfl rfl (by kernel_rfl) (by kernel_rfl) (by kernel_rfl) (fun _ _ _ h => h) (Or.inr ⟨by rfl, rfl⟩) ?_
      try simp only [Act.put, List.setIfInBounds_toArray, List.set_cons_zero, List.set_cons_succ]
      refine takeA (i := 13) (d := some 26) (v := undef) rfl rfl (by kernel_rfl) (by kernel_rfl) (by kernel_rfl) (fun _ _ _ h => h) (Or.inr ⟨by rfl, rfl⟩) ?_
      try simp only [Act.put, List.setIfInBounds_toArray, List.set_cons_zero, List.set_cons_succ]
      refine takeA (i := 14) (d := some 27) (v := ?v137) rfl rfl (by kernel_rfl) (by kernel_rfl) (by kernel_rfl) (fun _ _ _ h => h) (Or.inl ⟨by rfl, ?hy137⟩) ?rest137
      case hy137 => (intro w9; first | (go_simp; done) | (go_simp; with_reducible rfl))
      try simp only [Act.put, List.setIfInBounds_toArray, List.set_cons_zero, List.set_cons_succ]
      refine wpAny_done (by kernel_rfl) ?_ _
      refine NoPanic.normal ?_
      simp only [Exit.then]
      go_wp2_with (first | refine wpList_load_row rfl 36 _ rfl L rfl _ _ _ _ HBL4.out Tryd.underlying36 rfl (fit Hz4.out) ?_ | (refine wpList_store_row rfl 36 _ _ rfl w.heap.size z rfl rfl _ _ HB4.out.b (fit Hz4.out) (Eq.trans (sv4 zero_set) Hz4.out.symm) Hz1.out ?_))
      refine bodyPost_ret (v := .agg z) (results_cell_row rfl _ _ w.heap.size 36 _ _ _ rfl (setRow_heap _ _ _ _ _ _ HB4.out.b) Tryd.underlying36 rfl (fit Hz4.out)) rfl ?_
      refine ⟨x.1, by rw [HzE.out], ?_, only_row HB4.out.o (Nat.le_refl _) _⟩
      exact ⟨HXS.out, itm_plain HM2.out rfl ⟨a1, HA1.out, par_row HB4.out.p (by have := HG.out; omega) _, HR1.out⟩⟩
end Go.Proofs.YtabcehifdomolaaDoor.Eit
