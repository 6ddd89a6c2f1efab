/-
  window: Put.
  Conditions: as each theorem says.
-/
import Derived.Test.YtoniejpbgidmfaaWx
import Derived.Deep.AppendLies
namespace Go.Proofs.Ytoniejpbgidmfaa.Wp
open Go.RowKit Go.Proofs.Ytoniejpbgidmfaa.Vm Go.Proofs.Ytoniejpbgidmfaa.Bw Go.Proofs.Ytoniejpbgidmfaa.Br Go.Proofs.Ytoniejpbgidmfaa.Wr Go.Proofs.Ytoniejpbgidmfaa.Wc Go.Proofs.Ytoniejpbgidmfaa.Ww Go.Proofs.Ytoniejpbgidmfaa.Wx Go.Proofs.Ytoniejpbgidmfaa.Wm

theorem below_frozen {w w1 : World} {r : Option Nat} {g i : Nat} (h : w.grownBy w1 r) (hg : g < w.heap.size) (hr : r ≠ some g) (f : w.frozen? ⟨g, i, none⟩ = false) : w1.frozen? ⟨g, i, none⟩ = false :=
  (h.frozen_far ⟨g, i, none⟩ hg (Ne.symm hr)).trans f
/-- The window behind the append. -/
theorem win_more {base : Nat} {w w1 : World} {g n m cap cap1 : Nat} {A A1 : Option Addr} {l s : List UInt8} {x : Nat} (h : win base w g (.slice A n cap) l x) (hn : n = l.length) (hm : m = s.length) (hfit : n + m ≤ 32768)
    (hown : w1.ownsRow base 5 1 (.slice A1 (n + m) cap1) (n + m) (Bs l ++ Bs s)) (hgrow : w.grownBy w1 (Value.slice A n cap).ownBlock)
    (hloc : (Value.slice A1 (n + m) cap1).ownBlock = (Value.slice A n cap).ownBlock ∨ (Value.slice A1 (n + m) cap1).ownBlock = some w.heap.size) :
    win base (w1.setCell ⟨g, 1, none⟩ (.slice A1 (n + m) cap1)) g (.slice A1 (n + m) cap1) (l ++ s) x ∧ Only (own g (.slice A n cap)) w (w1.setCell ⟨g, 1, none⟩ (.slice A1 (n + m) cap1)) ∧ later w (.slice A n cap) (.slice A1 (n + m) cap1) := by
  have hap := h.b.apart h.o
  have o1 : Only (of (.slice A n cap)) w w1 := (Only.refl _ w).grown hgrow (fun i hi _ => hi)
  have hb1 := h.b.only o1 (fun e => hap g e rfl)
  have e : Bs l ++ Bs s = Bs (l ++ s) := by unfold Bs; rw [List.map_append]
  have el : (l ++ s).length = n + m := by rw [List.length_append, hn, hm]
  rw [e] at hown
  have hown' : byts w1 base 5 (.slice A1 (n + m) cap1) (l ++ s) := by unfold byts; rw [el]; exact hown
  refine ⟨⟨hb1.ring _, ?_, ⟨by rw [el]; exact hfit, h.r.lt, fun hlt => h.r.zero (by rw [el] at hlt; omega)⟩, h.g0⟩, (o1.mono (fun i hi => .inr hi)).store (p := ⟨g, 1, none⟩) (.inl (.inl rfl)) _, ?_⟩
  · exact hown'.only ((Only.refl (fun k => k = g) w1).store (p := ⟨g, 1, none⟩) (.inl rfl) _) (fun i hi => hb1.apart hown' i hi)
  · rcases hloc with k | k
    · exact .inl k
    · exact .inr ⟨_, Nat.le_refl _, k⟩
theorem later_own {w : World} {g : Nat} {v v' : Value} (h : later w v v') : ∀ i, own g v' i → i < w.heap.size → own g v i := by
  rintro i (rfl | hi) hlt
  · exact .inl rfl
  · rcases h with k | ⟨b, hb, k⟩
    · exact .inr (by rw [← k]; exact hi)
    · rw [hi] at k; injection k with k; omega

theorem put_cut (c : List UInt8) {s S : ByteArray} (h : 32768 < s.size) (hS : S = s.extract (s.size - 32768) s.size) : Wm.put 32768 c s.data.toList = Wm.put 32768 c S.data.toList := by
  unfold Wm.put
  have e : S.data.toList = lastN 32768 s.data.toList := by rw [hS, cut_drop]; unfold lastN; rw [size_len]
  rw [lastN_right (b := s.data.toList) (by rw [size_len]; omega), e, lastN_right (by rw [lastN_length, size_len]; omega), lastN_lastN, Nat.min_self]

set_option maxHeartbeats 2000000 in
set_option maxRecDepth 100000 in
theorem Put_any {base : Nat} {w : World} {g : Nat} {v : Value} {l : List UInt8} {x : Nat} (h : win base w g v l x) (s : ByteArray) (hs : s.size ≤ 9223372036854775807) :
    Calls Try.prog 12 #[.pointer (some ⟨g, 0, none⟩), .string s] w fun e w' => e = .returned (.tuple #[]) ∧ ∃ v' l' x', win base w' g v' l' x' ∧ cont l' x' = Wm.put 32768 (cont l x) s.data.toList ∧ Only (own g v) w w' ∧ later w v v' := by
  obtain ⟨i0, hi, hz0, hz1, hz2⟩ := info_parts info8
  have hN := Lib.hid (none_any h.b)
  have c1 := h.b.c1
  have f1 := h.b.f1
  obtain ⟨A, cap, hv⟩ := h.o.form
  subst hv
  have hle := h.r.le
  have hgr := Lib.hid (h.b.apart h.o)
  obtain ⟨n, hn⟩ : ∃ n, n = l.length := ⟨_, rfl⟩
  have HN := Lib.hid hn
  rw [← hn] at c1 h hgr hle ⊢
  have hO : w.drew.ownsRow base 5 1 (.slice A n cap) n (Bs l) := by have := h.o; unfold byts at this; rw [← hn] at this; exact this
  clear hn
  have lg : g < w.drew.heap.size := h.b.lt
  have ag : (Value.slice A n cap).ownBlock ≠ some g := fun e => hgr.out g e rfl
  have hb0 := h.b0
  have H := Lib.hid h
  clear h
  by_cases hb : s.size ≤ 32768
  · by_cases hr : s.size ≤ 32768 - n
    · obtain ⟨S, hS⟩ : ∃ S, S = s := ⟨_, rfl⟩
      subst hS
      have hS32 : S.size ≤ 32768 := hb
      obtain ⟨R, hR⟩ : ∃ R, R = min S.size (32768 - n) := ⟨_, rfl⟩
      have HR := Lib.hid hR
      have hRs : (S.size : Int) = (R : Int) := by omega
      clear hR
      go_enter Try.func12, Try.ntmps12
      go_wp2_with (go_at_call 20; refine hN.out.mono ?_; rintro e w' ⟨rfl, rfl⟩)
      clear hRs
      have hR1 : R ≤ S.size := by have := HR.out; omega
      have hR2 : n + R ≤ 32768 := by have := HR.out; omega
      have hsz : (S.extract 0 R).size = R := by rw [← size_len, cut_take, List.length_take, size_len]; omega
      have HSZ := Lib.hid hsz
      clear hsz
      go_region_law (refine step_str_at _ (by rfl) _ _ 43 9 (by rfl) base 5 i0 Try.underlying43 Try.underlying9 hi hz0 hz1 hz2 (.slice A n cap) n (Bs l) (by rfl) hO (S.extract 0 R) (by rfl) (by rw [HSZ.out]; unfold maxLen; omega) (by rw [HSZ.out]; omega) hb0 ?_; rw [HSZ.out]; intro A1 cap1 w1 hown hgrow hloc; have fz := below_frozen hgrow lg ag f1; have cz := (hgrow.cell_far ⟨g, 1, none⟩ lg (Ne.symm ag)).trans c1)
      have hown2 : w1.ownsRow base 5 1 (.slice A1 (n + R) cap1) (n + R) (Bs l ++ Bs (S.data.toList.take R)) := by
        have e : Lib.strCells (S.extract 0 R) = Bs (S.data.toList.take R) := by rw [← cut_take]; rfl
        rw [← e]; exact hown
      obtain ⟨t2, o2, la⟩ := win_more (w := w.drew) (s := S.data.toList.take R) ⟨H.out.b, H.out.o, H.out.r, H.out.g0⟩ HN.out (by rw [List.length_take, size_len]; omega) hR2 hown2 hgrow hloc
      have T2 := Lib.hid t2
      have O2 := Lib.hid (undrew o2)
      have LA : Hid (later w (.slice A n cap) (.slice A1 (n + R) cap1)) := Lib.hid la
      clear t2 o2 la hown hown2 hgrow hloc fz cz c1 f1 hO lg ag
      generalize w1.setCell ⟨g, 1, none⟩ (.slice A1 (n + R) cap1) = w3 at *
      have HC := Lib.hid (replace_any T2.out (S.extract R S.size) (by rw [size_cut]; omega) (by rw [size_cut, List.length_append, List.length_take, size_len, ← HN.out]; have := HR.out; omega))
      go_wp2_with (go_at_call 21; refine HC.out.mono ?_; rintro e w4 ⟨rfl, t4, o4⟩)
      go_end0
      have hr := put_ring (s := S.data.toList) H.out.r (by rw [size_len]; exact hS32)
      have e1 : min S.data.toList.length (32768 - l.length) = R := by rw [size_len, ← HN.out]; exact HR.out.symm
      have e2 : rep (l ++ S.data.toList.take R) x (S.extract R S.size).data.toList = putL 32768 l x S.data.toList := by unfold putL; rw [e1, cut_drop]
      have e3 : (x + (S.extract R S.size).size) % 32768 = putX 32768 l x S.data.toList := by unfold putX; rw [e1, ← cut_drop, size_len]
      rw [e2, e3] at t4
      exact ⟨rfl, _, _, _, t4, hr.2, O2.out.then o4 (later_own LA.out), LA.out⟩
    · obtain ⟨S, hS⟩ : ∃ S, S = s := ⟨_, rfl⟩
      subst hS
      have hS32 : S.size ≤ 32768 := hb
      obtain ⟨R, hR⟩ : ∃ R, R = min S.size (32768 - n) := ⟨_, rfl⟩
      have HR := Lib.hid hR
      have hRs : 32768 - (n : Int) = (R : Int) := by omega
      clear hR
      go_enter Try.func12, Try.ntmps12
      go_wp2_with (go_at_call 20; refine hN.out.mono ?_; rintro e w' ⟨rfl, rfl⟩)
      clear hRs
      have hR1 : R ≤ S.size := by have := HR.out; omega
      have hR2 : n + R ≤ 32768 := by have := HR.out; omega
      have hsz : (S.extract 0 R).size = R := by rw [← size_len, cut_take, List.length_take, size_len]; omega
      have HSZ := Lib.hid hsz
      clear hsz
      go_region_law (refine step_str_at _ (by rfl) _ _ 43 9 (by rfl) base 5 i0 Try.underlying43 Try.underlying9 hi hz0 hz1 hz2 (.slice A n cap) n (Bs l) (by rfl) hO (S.extract 0 R) (by rfl) (by rw [HSZ.out]; unfold maxLen; omega) (by rw [HSZ.out]; omega) hb0 ?_; rw [HSZ.out]; intro A1 cap1 w1 hown hgrow hloc; have fz := below_frozen hgrow lg ag f1; have cz := (hgrow.cell_far ⟨g, 1, none⟩ lg (Ne.symm ag)).trans c1)
      have hown2 : w1.ownsRow base 5 1 (.slice A1 (n + R) cap1) (n + R) (Bs l ++ Bs (S.data.toList.take R)) := by
        have e : Lib.strCells (S.extract 0 R) = Bs (S.data.toList.take R) := by rw [← cut_take]; rfl
        rw [← e]; exact hown
      obtain ⟨t2, o2, la⟩ := win_more (w := w.drew) (s := S.data.toList.take R) ⟨H.out.b, H.out.o, H.out.r, H.out.g0⟩ HN.out (by rw [List.length_take, size_len]; omega) hR2 hown2 hgrow hloc
      have T2 := Lib.hid t2
      have O2 := Lib.hid (undrew o2)
      have LA : Hid (later w (.slice A n cap) (.slice A1 (n + R) cap1)) := Lib.hid la
      clear t2 o2 la hown hown2 hgrow hloc fz cz c1 f1 hO lg ag
      generalize w1.setCell ⟨g, 1, none⟩ (.slice A1 (n + R) cap1) = w3 at *
      have HC := Lib.hid (replace_any T2.out (S.extract R S.size) (by rw [size_cut]; omega) (by rw [size_cut, List.length_append, List.length_take, size_len, ← HN.out]; have := HR.out; omega))
      go_wp2_with (go_at_call 21; refine HC.out.mono ?_; rintro e w4 ⟨rfl, t4, o4⟩)
      go_end0
      have hr := put_ring (s := S.data.toList) H.out.r (by rw [size_len]; exact hS32)
      have e1 : min S.data.toList.length (32768 - l.length) = R := by rw [size_len, ← HN.out]; exact HR.out.symm
      have e2 : rep (l ++ S.data.toList.take R) x (S.extract R S.size).data.toList = putL 32768 l x S.data.toList := by unfold putL; rw [e1, cut_drop]
      have e3 : (x + (S.extract R S.size).size) % 32768 = putX 32768 l x S.data.toList := by unfold putX; rw [e1, ← cut_drop, size_len]
      rw [e2, e3] at t4
      exact ⟨rfl, _, _, _, t4, hr.2, O2.out.then o4 (later_own LA.out), LA.out⟩
  · by_cases hr : 32768 ≤ 32768 - n
    · obtain ⟨K, hK⟩ : ∃ K, K = s.size - 32768 := ⟨_, rfl⟩
      obtain ⟨S, hS⟩ : ∃ S, S = s.extract K s.size := ⟨_, rfl⟩
      have hSs : S.size = 32768 := by rw [hS, size_cut]; omega
      have hS32 : S.size ≤ 32768 := by omega
      have HP : Hid (Wm.put 32768 (cont l x) s.data.toList = Wm.put 32768 (cont l x) S.data.toList) := Lib.hid (put_cut _ (by omega) (by rw [hS, hK]))
      have hK1 : ((s.size : Int) - 32768).toNat = K := by omega
      have hS1 : s.extract K s.size = S := hS.symm
      have hM : s.size - K = S.size := by omega
      obtain ⟨R, hR⟩ : ∃ R, R = min S.size (32768 - n) := ⟨_, rfl⟩
      have HR := Lib.hid hR
      have hRs : (S.size : Int) = (R : Int) := by omega
      clear hR
      clear hS hK hSs
      go_enter Try.func12, Try.ntmps12
      go_wp2_with (go_at_call 20; refine hN.out.mono ?_; rintro e w' ⟨rfl, rfl⟩)
      clear hRs hK1 hS1 hM
      have hR1 : R ≤ S.size := by have := HR.out; omega
      have hR2 : n + R ≤ 32768 := by have := HR.out; omega
      have hsz : (S.extract 0 R).size = R := by rw [← size_len, cut_take, List.length_take, size_len]; omega
      have HSZ := Lib.hid hsz
      clear hsz
      go_region_law (refine step_str_at _ (by rfl) _ _ 43 9 (by rfl) base 5 i0 Try.underlying43 Try.underlying9 hi hz0 hz1 hz2 (.slice A n cap) n (Bs l) (by rfl) hO (S.extract 0 R) (by rfl) (by rw [HSZ.out]; unfold maxLen; omega) (by rw [HSZ.out]; omega) hb0 ?_; rw [HSZ.out]; intro A1 cap1 w1 hown hgrow hloc; have fz := below_frozen hgrow lg ag f1; have cz := (hgrow.cell_far ⟨g, 1, none⟩ lg (Ne.symm ag)).trans c1)
      have hown2 : w1.ownsRow base 5 1 (.slice A1 (n + R) cap1) (n + R) (Bs l ++ Bs (S.data.toList.take R)) := by
        have e : Lib.strCells (S.extract 0 R) = Bs (S.data.toList.take R) := by rw [← cut_take]; rfl
        rw [← e]; exact hown
      obtain ⟨t2, o2, la⟩ := win_more (w := w.drew) (s := S.data.toList.take R) ⟨H.out.b, H.out.o, H.out.r, H.out.g0⟩ HN.out (by rw [List.length_take, size_len]; omega) hR2 hown2 hgrow hloc
      have T2 := Lib.hid t2
      have O2 := Lib.hid (undrew o2)
      have LA : Hid (later w (.slice A n cap) (.slice A1 (n + R) cap1)) := Lib.hid la
      clear t2 o2 la hown hown2 hgrow hloc fz cz c1 f1 hO lg ag
      generalize w1.setCell ⟨g, 1, none⟩ (.slice A1 (n + R) cap1) = w3 at *
      have HC := Lib.hid (replace_any T2.out (S.extract R S.size) (by rw [size_cut]; omega) (by rw [size_cut, List.length_append, List.length_take, size_len, ← HN.out]; have := HR.out; omega))
      go_wp2_with (go_at_call 21; refine HC.out.mono ?_; rintro e w4 ⟨rfl, t4, o4⟩)
      go_end0
      have hr := put_ring (s := S.data.toList) H.out.r (by rw [size_len]; exact hS32)
      have e1 : min S.data.toList.length (32768 - l.length) = R := by rw [size_len, ← HN.out]; exact HR.out.symm
      have e2 : rep (l ++ S.data.toList.take R) x (S.extract R S.size).data.toList = putL 32768 l x S.data.toList := by unfold putL; rw [e1, cut_drop]
      have e3 : (x + (S.extract R S.size).size) % 32768 = putX 32768 l x S.data.toList := by unfold putX; rw [e1, ← cut_drop, size_len]
      rw [e2, e3] at t4
      exact ⟨rfl, _, _, _, t4, hr.2.trans HP.out.symm, O2.out.then o4 (later_own LA.out), LA.out⟩
    · obtain ⟨K, hK⟩ : ∃ K, K = s.size - 32768 := ⟨_, rfl⟩
      obtain ⟨S, hS⟩ : ∃ S, S = s.extract K s.size := ⟨_, rfl⟩
      have hSs : S.size = 32768 := by rw [hS, size_cut]; omega
      have hS32 : S.size ≤ 32768 := by omega
      have HP : Hid (Wm.put 32768 (cont l x) s.data.toList = Wm.put 32768 (cont l x) S.data.toList) := Lib.hid (put_cut _ (by omega) (by rw [hS, hK]))
      have hK1 : ((s.size : Int) - 32768).toNat = K := by omega
      have hS1 : s.extract K s.size = S := hS.symm
      have hM : s.size - K = S.size := by omega
      obtain ⟨R, hR⟩ : ∃ R, R = min S.size (32768 - n) := ⟨_, rfl⟩
      have HR := Lib.hid hR
      have hRs : 32768 - (n : Int) = (R : Int) := by omega
      clear hR
      clear hS hK hSs
      go_enter Try.func12, Try.ntmps12
      go_wp2_with (go_at_call 20; refine hN.out.mono ?_; rintro e w' ⟨rfl, rfl⟩)
      clear hRs hK1 hS1 hM
      have hR1 : R ≤ S.size := by have := HR.out; omega
      have hR2 : n + R ≤ 32768 := by have := HR.out; omega
      have hsz : (S.extract 0 R).size = R := by rw [← size_len, cut_take, List.length_take, size_len]; omega
      have HSZ := Lib.hid hsz
      clear hsz
      go_region_law (refine step_str_at _ (by rfl) _ _ 43 9 (by rfl) base 5 i0 Try.underlying43 Try.underlying9 hi hz0 hz1 hz2 (.slice A n cap) n (Bs l) (by rfl) hO (S.extract 0 R) (by rfl) (by rw [HSZ.out]; unfold maxLen; omega) (by rw [HSZ.out]; omega) hb0 ?_; rw [HSZ.out]; intro A1 cap1 w1 hown hgrow hloc; have fz := below_frozen hgrow lg ag f1; have cz := (hgrow.cell_far ⟨g, 1, none⟩ lg (Ne.symm ag)).trans c1)
      have hown2 : w1.ownsRow base 5 1 (.slice A1 (n + R) cap1) (n + R) (Bs l ++ Bs (S.data.toList.take R)) := by
        have e : Lib.strCells (S.extract 0 R) = Bs (S.data.toList.take R) := by rw [← cut_take]; rfl
        rw [← e]; exact hown
      obtain ⟨t2, o2, la⟩ := win_more (w := w.drew) (s := S.data.toList.take R) ⟨H.out.b, H.out.o, H.out.r, H.out.g0⟩ HN.out (by rw [List.length_take, size_len]; omega) hR2 hown2 hgrow hloc
      have T2 := Lib.hid t2
      have O2 := Lib.hid (undrew o2)
      have LA : Hid (later w (.slice A n cap) (.slice A1 (n + R) cap1)) := Lib.hid la
      clear t2 o2 la hown hown2 hgrow hloc fz cz c1 f1 hO lg ag
      generalize w1.setCell ⟨g, 1, none⟩ (.slice A1 (n + R) cap1) = w3 at *
      have HC := Lib.hid (replace_any T2.out (S.extract R S.size) (by rw [size_cut]; omega) (by rw [size_cut, List.length_append, List.length_take, size_len, ← HN.out]; have := HR.out; omega))
      go_wp2_with (go_at_call 21; refine HC.out.mono ?_; rintro e w4 ⟨rfl, t4, o4⟩)
      go_end0
      have hr := put_ring (s := S.data.toList) H.out.r (by rw [size_len]; exact hS32)
      have e1 : min S.data.toList.length (32768 - l.length) = R := by rw [size_len, ← HN.out]; exact HR.out.symm
      have e2 : rep (l ++ S.data.toList.take R) x (S.extract R S.size).data.toList = putL 32768 l x S.data.toList := by unfold putL; rw [e1, cut_drop]
      have e3 : (x + (S.extract R S.size).size) % 32768 = putX 32768 l x S.data.toList := by unfold putX; rw [e1, ← cut_drop, size_len]
      rw [e2, e3] at t4
      exact ⟨rfl, _, _, _, t4, hr.2.trans HP.out.symm, O2.out.then o4 (later_own LA.out), LA.out⟩
end Go.Proofs.Ytoniejpbgidmfaa.Wp
