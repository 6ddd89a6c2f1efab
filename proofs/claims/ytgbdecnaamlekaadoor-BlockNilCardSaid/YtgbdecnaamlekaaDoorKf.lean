/-
  block.Read: what is read is what the numbers say; with an error the reader stands where it stood.
  Conditions: a string of at most 2^48 bytes, a place within it; what readHead answers is a premise here.
-/
import Derived.Test.YtgbdecnaamlekaaDoorKe
namespace Go.Proofs.YtgbdecnaamlekaaDoor.Kf
open Go.RowKit Go.Proofs.YtgbdecnaamlekaaDoor.Vm Go.Proofs.YtgbdecnaamlekaaDoor.Vo Go.Proofs.YtgbdecnaamlekaaDoor.Bw Go.Proofs.YtgbdecnaamlekaaDoor.Bm Go.Proofs.YtgbdecnaamlekaaDoor.Br Go.Proofs.YtgbdecnaamlekaaDoor.Bs Go.Proofs.YtgbdecnaamlekaaDoor.Na Go.Proofs.YtgbdecnaamlekaaDoor.Nm Go.Proofs.YtgbdecnaamlekaaDoor.Ko Go.Proofs.YtgbdecnaamlekaaDoor.Ka Go.Proofs.YtgbdecnaamlekaaDoor.Kb Go.Proofs.YtgbdecnaamlekaaDoor.Km Go.Proofs.YtgbdecnaamlekaaDoor.Ks Go.Proofs.YtgbdecnaamlekaaDoor.Kc Go.Proofs.YtgbdecnaamlekaaDoor.Kd Go.Proofs.YtgbdecnaamlekaaDoor.Ke

/-- What Read answers. -/
def reads (g : Nat) (s : ByteArray) (a : Nat) (w : World) (e : Ending) (w' : World) : Prop :=
  ∃ b k z A1 n1 c1 A2 n2 c2, e = .returned (.tuple #[hv b k z (.slice A1 n1 c1) (.slice A2 n2 c2), .int .i64 (headM (num s.data.toList) (8 * s.size) a).1]) ∧
    isH w' (hv b k z (.slice A1 n1 c1) (.slice A2 n2 c2)) (headM (num s.data.toList) (8 * s.size) a).2.1 ∧ rd w' g s (headM (num s.data.toList) (8 * s.size) a).2.2 ∧ Only (At g) w w'

section
variable {w : World} {g : Nat} {s : ByteArray} {a : Nat}
set_option maxRecDepth 100000 in
theorem Read_no (h : rd w g s a) (HH : Hid (∀ u c, rd u c s a → Calls Tryd.prog 34 #[.pointer (some ⟨c, 0, none⟩)] u (rdH c s a u))) (he : (headM (num s.data.toList) (8 * s.size) a).1 ≠ 0) :
    Calls Tryd.prog 12 #[.pointer (some ⟨g, 0, none⟩)] w (reads g s a w) := by
  obtain ⟨he1, he2⟩ := head_err he
  have H1 := Lib.hid he1
  have H2 := Lib.hid he2
  obtain ⟨er, her⟩ : ∃ er, er = (headM (num s.data.toList) (8 * s.size) a).1 := ⟨_, rfl⟩
  have HER := Lib.hid her
  rw [← her] at he
  have hne : (er != 0) = true := by simpa using he
  clear he1 he2 her he
  have hg := h.lt
  have h1 := h.below (below_alloc w (.cells #[.bool false, .int .i64 0, .int .i64 0, .slice none 0 0, .slice none 0 0] 33))
  go_enter Tryd.func12, Tryd.ntmps12
  go_wp2_with fail
  refine (Copy_any h1).mono ?_
  rintro e w2 ⟨c, rfl, r2, hc, b2⟩
  rw [size_alloc] at hc
  have HC := Lib.hid hc
  clear hc
  have R2 := Lib.hid r2
  have B2 := Lib.hid b2
  clear r2 b2
  go_wp2_with fail
  refine (HH.out w2 c R2.out).mono ?_
  rintro e w3 ⟨b, k, z, A1, n1, c1, A2, n2, c2, rfl, _, o3⟩
  have O3 := Lib.hid o3
  clear o3
  rw [← HER.out]
  have hcs : c = w.heap.size + 1 := HC.out
  have HR : Hid (Blk (w3.alloc (.cells #[.bool b, .int .i64 k, .int .i64 z, .slice A1 n1 c1, .slice A2 n2 c2] 33)) w.heap.size 33 z5) := Lib.hid ((((Blk.fresh w _ _).below B2.out).only O3.out (fun e => by have : w.heap.size = c := e; omega)).below (below_alloc _ _))
  clear hcs
  go_wp2_with (refine wpList_store_row rfl 33 _ _ rfl w.heap.size z5 rfl rfl _ _ HR.out sizeH rfl (one5 _ _ _ _ _ _ _ _ _) ?_)
  refine bodyPost_ret (v := .tuple #[.agg z5, .int .i64 er]) (results_cell2 rfl _ _ w.heap.size 33 z5 _ _ rfl rfl (setRow_heap _ _ _ _ _ _ HR.out) Tryd.underlying33 rfl sizeH) rfl ?_
  have hcs : c = w.heap.size + 1 := HC.out
  have hB : Below w.heap.size w (w3.alloc (.cells #[.bool b, .int .i64 k, .int .i64 z, .slice A1 n1 c1, .slice A2 n2 c2] 33)) :=
    (O3.out.below (grows (below_alloc w _) B2.out) (grows (below_alloc w _) B2.out).size (fun i hi => by have : i = c := hi; omega)).alloc (Nat.le_trans (grows (below_alloc w _) B2.out).size O3.out.size) _
  have hB' := Below_setRow hB (Nat.le_refl _) z5
  refine ⟨false, 0, 0, none, 0, 0, none, 0, 0, by rw [HER.out], ?_, ?_, Only.of_below hB'⟩
  · rw [H1.out]; exact ⟨_, _, rfl, lst_nil _, lst_nil _⟩
  · rw [H2.out]; exact h.below hB'

set_option maxRecDepth 100000 in
theorem Read_ok (h : rd w g s a) (hs : s.size ≤ 281474976710656) (HH : Hid (∀ u c, rd u c s a → Calls Tryd.prog 34 #[.pointer (some ⟨c, 0, none⟩)] u (rdH c s a u))) (he : (headM (num s.data.toList) (8 * s.size) a).1 = 0) :
    Calls Tryd.prog 12 #[.pointer (some ⟨g, 0, none⟩)] w (reads g s a w) := by
  obtain ⟨_, hp1, hp2⟩ := head_facts he
  obtain ⟨p, hp⟩ : ∃ p, p = (headM (num s.data.toList) (8 * s.size) a).2.2 := ⟨_, rfl⟩
  rw [← hp] at hp1 hp2
  have HP := Lib.hid hp
  have HE := Lib.hid he
  clear hp he
  have hg := h.lt
  have h1 := h.below (below_alloc w (.cells #[.bool false, .int .i64 0, .int .i64 0, .slice none 0 0, .slice none 0 0] 33))
  go_enter Tryd.func12, Tryd.ntmps12
  go_wp2_with fail
  refine (Copy_any h1).mono ?_
  rintro e w2 ⟨c, rfl, r2, hc, b2⟩
  rw [size_alloc] at hc
  have HC := Lib.hid hc
  clear hc
  have R2 := Lib.hid r2
  have B2 := Lib.hid b2
  clear r2 b2
  go_wp2_with fail
  refine (HH.out w2 c R2.out).mono ?_
  rintro e w3 ⟨b, k, z, A1, n1, c1, A2, n2, c2, rfl, i3, o3⟩
  have O3 := Lib.hid o3
  have I3 := Lib.hid (i3 HE.out)
  clear o3 i3
  rw [HE.out]
  obtain ⟨w4, hw4⟩ : ∃ w4, w4 = w3.alloc (.cells #[.bool b, .int .i64 k, .int .i64 z, .slice A1 n1 c1, .slice A2 n2 c2] 33) := ⟨_, rfl⟩
  have hcs : c = w.heap.size + 1 := HC.out
  have HR : Hid (Blk w4 w.heap.size 33 z5) := Lib.hid (by rw [hw4]; exact (((Blk.fresh w _ _).below B2.out).only O3.out (fun e => by have : w.heap.size = c := e; omega)).below (below_alloc _ _))
  have HV : Hid (Blk w4 w3.heap.size 33 #[.bool b, .int .i64 k, .int .i64 z, .slice A1 n1 c1, .slice A2 n2 c2]) := Lib.hid (by rw [hw4]; exact Blk.fresh _ _ _)
  have HI : Hid (isH w4 (hv b k z (.slice A1 n1 c1) (.slice A2 n2 c2)) (headM (num s.data.toList) (8 * s.size) a).2.1) := Lib.hid (by rw [hw4]; exact I3.out.1.below (below_alloc _ _))
  have HRC : Hid (rd w4 c s p) := Lib.hid (by rw [hw4, HP.out]; exact I3.out.2.below (below_alloc _ _))
  have hB2 := grows (below_alloc w (.cells #[.bool false, .int .i64 0, .int .i64 0, .slice none 0 0, .slice none 0 0] 33)) B2.out
  have HB : Hid (Below w.heap.size w w4) := Lib.hid (by
    rw [hw4]
    exact (O3.out.below hB2 hB2.size (fun i hi => by have : i = c := hi; omega)).alloc (Nat.le_trans hB2.size O3.out.size) _)
  have HRG : Hid (rd w4 g s a) := Lib.hid (h.below HB.out)
  have hs3 : Hid (w.heap.size + 1 < w3.heap.size) := Lib.hid (by have h1 := R2.out.lt; have h2 := O3.out.size; omega)
  clear hcs hB2
  go_wp2_with fail
  rw [← hw4]
  refine (At_any HRC.out).mono ?_
  rintro e w5 ⟨rfl, hw⟩
  rw [hw]
  clear hw hw4
  go_wp2_with fail
  refine (advance_any HRG.out hs (by omega) hp2).mono ?_
  rintro e w6 ⟨rfl, r6, o6⟩
  have R6 := Lib.hid r6
  have O6 := Lib.hid o6
  clear r6 o6
  obtain ⟨H, hH⟩ : ∃ H, H = w3.heap.size := ⟨_, rfl⟩
  have HV6 : Hid (Blk w6 H 33 #[.bool b, .int .i64 k, .int .i64 z, .slice A1 n1 c1, .slice A2 n2 c2]) := Lib.hid (by
    rw [hH]; exact HV.out.only O6.out (fun e => by have : w3.heap.size = g := e; have := hs3.out; omega))
  have HR6 : Hid (Blk w6 w.heap.size 33 z5) := Lib.hid (HR.out.only O6.out (fun e => by have : w.heap.size = g := e; omega))
  rw [← hH]
  clear hH
  go_wp2_with (first | (refine wpList_load_row rfl 33 _ rfl H rfl _ _ _ _ HV6.out Tryd.underlying33 rfl sizeH ?_) | (refine wpList_store_row rfl 33 _ _ rfl w.heap.size #[.bool b, .int .i64 k, .int .i64 z, .slice A1 n1 c1, .slice A2 n2 c2] rfl rfl _ _ HR6.out sizeH rfl (one5 _ _ _ _ _ _ _ _ _) ?_))
  refine bodyPost_ret (v := .tuple #[.agg #[.bool b, .int .i64 k, .int .i64 z, .slice A1 n1 c1, .slice A2 n2 c2], .int .i64 0]) (results_cell2 rfl _ _ w.heap.size 33 _ _ _ rfl rfl (setRow_heap _ _ _ _ _ _ HR6.out) Tryd.underlying33 rfl sizeH) rfl ?_
  have OR : Only (fun k => k = w.heap.size) w6 (w6.setRow w.heap.size #[.bool b, .int .i64 k, .int .i64 z, .slice A1 n1 c1, .slice A2 n2 c2]) := only_row (S := fun k => k = w.heap.size) (Only.refl _ _) rfl _
  refine ⟨b, k, z, A1, n1, c1, A2, n2, c2, by rw [HE.out], ?_, ?_, ?_⟩
  · refine (HI.out.off O6.out (fun i hi => ?_)).off OR (fun i hi => ?_)
    · obtain rfl : i = g := hi
      exact ⟨_, _, HRG.out, by decide⟩
    · obtain rfl : i = w.heap.size := hi
      exact ⟨_, _, HR6.out, by decide⟩
  · rw [← HP.out]; exact R6.out.only OR (fun e => by have : g = w.heap.size := e; omega)
  · exact Only.then (Only.then (Only.of_below HB.out) O6.out (fun i hi _ => hi)) OR (fun i hi hlt => by have : i = w.heap.size := hi; omega)

theorem Read_any (h : rd w g s a) (hs : s.size ≤ 281474976710656) (HH : Hid (∀ u c, rd u c s a → Calls Tryd.prog 34 #[.pointer (some ⟨c, 0, none⟩)] u (rdH c s a u))) :
    Calls Tryd.prog 12 #[.pointer (some ⟨g, 0, none⟩)] w (reads g s a w) := by
  by_cases he : (headM (num s.data.toList) (8 * s.size) a).1 = 0
  · exact Read_ok h hs HH he
  · exact Read_no h HH he
end
end Go.Proofs.YtgbdecnaamlekaaDoor.Kf
