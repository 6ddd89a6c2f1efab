/-
  window: Put.
  window: New, Last, Clear, Twin.
  window: Clear, Twin, Copy.
  window: Copy.
  Conditions: as each theorem says.
-/
import Derived.Test.YtnkninjdpgpkmaaGreatDoorBbp
import Derived.Deep.AppendLies
import Derived.Laws.MakeOwn
import Derived.OwnWalk
namespace Go.Proofs.YtnkninjdpgpkmaaGreatDoor.Wp
open Go.RowKit Go.Proofs.YtnkninjdpgpkmaaGreatDoor.Vm Go.Proofs.YtnkninjdpgpkmaaGreatDoor.Bw Go.Proofs.YtnkninjdpgpkmaaGreatDoor.Br Go.Proofs.YtnkninjdpgpkmaaGreatDoor.Wr Go.Proofs.YtnkninjdpgpkmaaGreatDoor.Wc Go.Proofs.YtnkninjdpgpkmaaGreatDoor.Ww Go.Proofs.YtnkninjdpgpkmaaGreatDoor.Wx Go.Proofs.YtnkninjdpgpkmaaGreatDoor.Wm

theorem below_frozen {w w1 : World} {r : Option Nat} {g i : Nat} (h : w.grownBy w1 r) (hg : g < w.heap.size) (hr : r ≠ some g) (f : w.frozen? ⟨g, i, none⟩ = false) : w1.frozen? ⟨g, i, none⟩ = false :=
  (h.frozen_far ⟨g, i, none⟩ hg (Ne.symm hr)).trans f
/-- The window behind the append. -/
theorem win_more {base : Nat} {w w1 : World} {g n m cap cap1 : Nat} {A A1 : Option Addr} {l s : List UInt8} {x : Nat} (h : win base w g (.slice A n cap) l x) (hn : n = l.length) (hm : m = s.length) (hfit : n + m ≤ 32768)
    (hown : w1.ownsRow base 5 1 (.slice A1 (n + m) cap1) (n + m) (Bs l ++ Bs s)) (hgrow : w.grownBy w1 (Value.slice A n cap).ownBlock)
    (hloc : (Value.slice A1 (n + m) cap1).ownBlock = (Value.slice A n cap).ownBlock ∨ (Value.slice A1 (n + m) cap1).ownBlock = some w.heap.size) :
    win base (w1.setCell ⟨g, 1, none⟩ (.slice A1 (n + m) cap1)) g (.slice A1 (n + m) cap1) (l ++ s) x ∧ Only (own g (.slice A n cap)) w (w1.setCell ⟨g, 1, none⟩ (.slice A1 (n + m) cap1)) ∧ later w (.slice A n cap) (.slice A1 (n + m) cap1) := by
  have hap := h.b.apart h.o
  have o1 : Only (of (.slice A n cap)) w w1 := (Only.refl _ w).grown hgrow (fun i hi _ => hi)
  have hb1 := h.b.only o1 (fun e => hap g e rfl)
  have e : Bs l ++ Bs s = Bs (l ++ s) := by unfold Bs; rw [List.map_append]
  have el : (l ++ s).length = n + m := by rw [List.length_append, hn, hm]
  rw [e] at hown
  have hown' : byts w1 base 5 (.slice A1 (n + m) cap1) (l ++ s) := by unfold byts; rw [el]; exact hown
  refine ⟨⟨hb1.ring _, ?_, ⟨by rw [el]; exact hfit, h.r.lt, fun hlt => h.r.zero (by rw [el] at hlt; omega)⟩, h.g0⟩, (o1.mono (fun i hi => .inr hi)).store (p := ⟨g, 1, none⟩) (.inl (.inl rfl)) _, ?_⟩
  · exact hown'.only ((Only.refl (fun k => k = g) w1).store (p := ⟨g, 1, none⟩) (.inl rfl) _) (fun i hi => hb1.apart hown' i hi)
  · rcases hloc with k | k
    · exact .inl k
    · exact .inr ⟨_, Nat.le_refl _, k⟩
theorem later_own {w : World} {g : Nat} {v v' : Value} (h : later w v v') : ∀ i, own g v' i → i < w.heap.size → own g v i := by
  rintro i (rfl | hi) hlt
  · exact .inl rfl
  · rcases h with k | ⟨b, hb, k⟩
    · exact .inr (by rw [← k]; exact hi)
    · rw [hi] at k; injection k with k; omega

theorem put_cut (c : List UInt8) {s S : ByteArray} (h : 32768 < s.size) (hS : S = s.extract (s.size - 32768) s.size) : Wm.put 32768 c s.data.toList = Wm.put 32768 c S.data.toList := by
  unfold Wm.put
  have e : S.data.toList = lastN 32768 s.data.toList := by rw [hS, cut_drop]; unfold lastN; rw [size_len]
  rw [lastN_right (b := s.data.toList) (by rw [size_len]; omega), e, lastN_right (by rw [lastN_length, size_len]; omega), lastN_lastN, Nat.min_self]

set_option maxHeartbeats 2000000 in
set_option maxRecDepth 100000 in
theorem Put_any {base : Nat} {w : World} {g : Nat} {v : Value} {l : List UInt8} {x : Nat} (h : win base w g v l x) (s : ByteArray) (hs : s.size ≤ 9223372036854775807) :
    Calls Tryz.prog 61 #[.pointer (some ⟨g, 0, none⟩), .string s] w fun e w' => e = .returned (.tuple #[]) ∧ ∃ v' l' x', win base w' g v' l' x' ∧ cont l' x' = Wm.put 32768 (cont l x) s.data.toList ∧ Only (own g v) w w' ∧ later w v v' := by
  obtain ⟨i0, hi, hz0, hz1, hz2⟩ := info_parts info8
  have hN := Lib.hid (none_any h.b)
  have c1 := h.b.c1
  have f1 := h.b.f1
  obtain ⟨A, cap, hv⟩ := h.o.form
  subst hv
  have hle := h.r.le
  have hgr := Lib.hid (h.b.apart h.o)
  obtain ⟨n, hn⟩ : ∃ n, n = l.length := ⟨_, rfl⟩
  have HN := Lib.hid hn
  rw [← hn] at c1 h hgr hle ⊢
  have hO : w.drew.ownsRow base 5 1 (.slice A n cap) n (Bs l) := by have := h.o; unfold byts at this; rw [← hn] at this; exact this
  clear hn
  have lg : g < w.drew.heap.size := h.b.lt
  have ag : (Value.slice A n cap).ownBlock ≠ some g := fun e => hgr.out g e rfl
  have hb0 := h.b0
  have H := Lib.hid h
  clear h
  by_cases hb : s.size ≤ 32768
  · by_cases hr : s.size ≤ 32768 - n
    · obtain ⟨S, hS⟩ : ∃ S, S = s := ⟨_, rfl⟩
      subst hS
      have hS32 : S.size ≤ 32768 := hb
      obtain ⟨R, hR⟩ : ∃ R, R = min S.size (32768 - n) := ⟨_, rfl⟩
      have HR := Lib.hid hR
      have hRs : (S.size : Int) = (R : Int) := by omega
      clear hR
      go_enter Tryz.func61, Tryz.ntmps61
      go_wp2_with (go_at_call 70; refine hN.out.mono ?_; rintro e w' ⟨rfl, rfl⟩)
      clear hRs
      have hR1 : R ≤ S.size := by have := HR.out; omega
      have hR2 : n + R ≤ 32768 := by have := HR.out; omega
      have hsz : (S.extract 0 R).size = R := by rw [← size_len, cut_take, List.length_take, size_len]; omega
      have HSZ := Lib.hid hsz
      clear hsz
      go_region_law (refine step_str_at _ (by rfl) _ _ 62 9 (by rfl) base 5 i0 Tryz.underlying62 Tryz.underlying9 hi hz0 hz1 hz2 (.slice A n cap) n (Bs l) (by rfl) hO (S.extract 0 R) (by rfl) (by rw [HSZ.out]; unfold maxLen; omega) (by rw [HSZ.out]; omega) hb0 ?_; rw [HSZ.out]; intro A1 cap1 w1 hown hgrow hloc; have fz := below_frozen hgrow lg ag f1; have cz := (hgrow.cell_far ⟨g, 1, none⟩ lg (Ne.symm ag)).trans c1)
      have hown2 : w1.ownsRow base 5 1 (.slice A1 (n + R) cap1) (n + R) (Bs l ++ Bs (S.data.toList.take R)) := by
        have e : Lib.strCells (S.extract 0 R) = Bs (S.data.toList.take R) := by rw [← cut_take]; rfl
        rw [← e]; exact hown
      obtain ⟨t2, o2, la⟩ := win_more (w := w.drew) (s := S.data.toList.take R) ⟨H.out.b, H.out.o, H.out.r, H.out.g0⟩ HN.out (by rw [List.length_take, size_len]; omega) hR2 hown2 hgrow hloc
      have T2 := Lib.hid t2
      have O2 := Lib.hid (undrew o2)
      have LA : Hid (later w (.slice A n cap) (.slice A1 (n + R) cap1)) := Lib.hid la
      clear t2 o2 la hown hown2 hgrow hloc fz cz c1 f1 hO lg ag
      generalize w1.setCell ⟨g, 1, none⟩ (.slice A1 (n + R) cap1) = w3 at *
      have HC := Lib.hid (replace_any T2.out (S.extract R S.size) (by rw [size_cut]; omega) (by rw [size_cut, List.length_append, List.length_take, size_len, ← HN.out]; have := HR.out; omega))
      go_wp2_with (go_at_call 93; refine HC.out.mono ?_; rintro e w4 ⟨rfl, t4, o4⟩)
      go_end0
      have hr := put_ring (s := S.data.toList) H.out.r (by rw [size_len]; exact hS32)
      have e1 : min S.data.toList.length (32768 - l.length) = R := by rw [size_len, ← HN.out]; exact HR.out.symm
      have e2 : rep (l ++ S.data.toList.take R) x (S.extract R S.size).data.toList = putL 32768 l x S.data.toList := by unfold putL; rw [e1, cut_drop]
      have e3 : (x + (S.extract R S.size).size) % 32768 = putX 32768 l x S.data.toList := by unfold putX; rw [e1, ← cut_drop, size_len]
      rw [e2, e3] at t4
      exact ⟨rfl, _, _, _, t4, hr.2, O2.out.then o4 (later_own LA.out), LA.out⟩
    · obtain ⟨S, hS⟩ : ∃ S, S = s := ⟨_, rfl⟩
      subst hS
      have hS32 : S.size ≤ 32768 := hb
      obtain ⟨R, hR⟩ : ∃ R, R = min S.size (32768 - n) := ⟨_, rfl⟩
      have HR := Lib.hid hR
      have hRs : 32768 - (n : Int) = (R : Int) := by omega
      clear hR
      go_enter Tryz.func61, Tryz.ntmps61
      go_wp2_with (go_at_call 70; refine hN.out.mono ?_; rintro e w' ⟨rfl, rfl⟩)
      clear hRs
      have hR1 : R ≤ S.size := by have := HR.out; omega
      have hR2 : n + R ≤ 32768 := by have := HR.out; omega
      have hsz : (S.extract 0 R).size = R := by rw [← size_len, cut_take, List.length_take, size_len]; omega
      have HSZ := Lib.hid hsz
      clear hsz
      go_region_law (refine step_str_at _ (by rfl) _ _ 62 9 (by rfl) base 5 i0 Tryz.underlying62 Tryz.underlying9 hi hz0 hz1 hz2 (.slice A n cap) n (Bs l) (by rfl) hO (S.extract 0 R) (by rfl) (by rw [HSZ.out]; unfold maxLen; omega) (by rw [HSZ.out]; omega) hb0 ?_; rw [HSZ.out]; intro A1 cap1 w1 hown hgrow hloc; have fz := below_frozen hgrow lg ag f1; have cz := (hgrow.cell_far ⟨g, 1, none⟩ lg (Ne.symm ag)).trans c1)
      have hown2 : w1.ownsRow base 5 1 (.slice A1 (n + R) cap1) (n + R) (Bs l ++ Bs (S.data.toList.take R)) := by
        have e : Lib.strCells (S.extract 0 R) = Bs (S.data.toList.take R) := by rw [← cut_take]; rfl
        rw [← e]; exact hown
      obtain ⟨t2, o2, la⟩ := win_more (w := w.drew) (s := S.data.toList.take R) ⟨H.out.b, H.out.o, H.out.r, H.out.g0⟩ HN.out (by rw [List.length_take, size_len]; omega) hR2 hown2 hgrow hloc
      have T2 := Lib.hid t2
      have O2 := Lib.hid (undrew o2)
      have LA : Hid (later w (.slice A n cap) (.slice A1 (n + R) cap1)) := Lib.hid la
      clear t2 o2 la hown hown2 hgrow hloc fz cz c1 f1 hO lg ag
      generalize w1.setCell ⟨g, 1, none⟩ (.slice A1 (n + R) cap1) = w3 at *
      have HC := Lib.hid (replace_any T2.out (S.extract R S.size) (by rw [size_cut]; omega) (by rw [size_cut, List.length_append, List.length_take, size_len, ← HN.out]; have := HR.out; omega))
      go_wp2_with (go_at_call 93; refine HC.out.mono ?_; rintro e w4 ⟨rfl, t4, o4⟩)
      go_end0
      have hr := put_ring (s := S.data.toList) H.out.r (by rw [size_len]; exact hS32)
      have e1 : min S.data.toList.length (32768 - l.length) = R := by rw [size_len, ← HN.out]; exact HR.out.symm
      have e2 : rep (l ++ S.data.toList.take R) x (S.extract R S.size).data.toList = putL 32768 l x S.data.toList := by unfold putL; rw [e1, cut_drop]
      have e3 : (x + (S.extract R S.size).size) % 32768 = putX 32768 l x S.data.toList := by unfold putX; rw [e1, ← cut_drop, size_len]
      rw [e2, e3] at t4
      exact ⟨rfl, _, _, _, t4, hr.2, O2.out.then o4 (later_own LA.out), LA.out⟩
  · by_cases hr : 32768 ≤ 32768 - n
    · obtain ⟨K, hK⟩ : ∃ K, K = s.size - 32768 := ⟨_, rfl⟩
      obtain ⟨S, hS⟩ : ∃ S, S = s.extract K s.size := ⟨_, rfl⟩
      have hSs : S.size = 32768 := by rw [hS, size_cut]; omega
      have hS32 : S.size ≤ 32768 := by omega
      have HP : Hid (Wm.put 32768 (cont l x) s.data.toList = Wm.put 32768 (cont l x) S.data.toList) := Lib.hid (put_cut _ (by omega) (by rw [hS, hK]))
      have hK1 : ((s.size : Int) - 32768).toNat = K := by omega
      have hS1 : s.extract K s.size = S := hS.symm
      have hM : s.size - K = S.size := by omega
      obtain ⟨R, hR⟩ : ∃ R, R = min S.size (32768 - n) := ⟨_, rfl⟩
      have HR := Lib.hid hR
      have hRs : (S.size : Int) = (R : Int) := by omega
      clear hR
      clear hS hK hSs
      go_enter Tryz.func61, Tryz.ntmps61
      go_wp2_with (go_at_call 70; refine hN.out.mono ?_; rintro e w' ⟨rfl, rfl⟩)
      clear hRs hK1 hS1 hM
      have hR1 : R ≤ S.size := by have := HR.out; omega
      have hR2 : n + R ≤ 32768 := by have := HR.out; omega
      have hsz : (S.extract 0 R).size = R := by rw [← size_len, cut_take, List.length_take, size_len]; omega
      have HSZ := Lib.hid hsz
      clear hsz
      go_region_law (refine step_str_at _ (by rfl) _ _ 62 9 (by rfl) base 5 i0 Tryz.underlying62 Tryz.underlying9 hi hz0 hz1 hz2 (.slice A n cap) n (Bs l) (by rfl) hO (S.extract 0 R) (by rfl) (by rw [HSZ.out]; unfold maxLen; omega) (by rw [HSZ.out]; omega) hb0 ?_; rw [HSZ.out]; intro A1 cap1 w1 hown hgrow hloc; have fz := below_frozen hgrow lg ag f1; have cz := (hgrow.cell_far ⟨g, 1, none⟩ lg (Ne.symm ag)).trans c1)
      have hown2 : w1.ownsRow base 5 1 (.slice A1 (n + R) cap1) (n + R) (Bs l ++ Bs (S.data.toList.take R)) := by
        have e : Lib.strCells (S.extract 0 R) = Bs (S.data.toList.take R) := by rw [← cut_take]; rfl
        rw [← e]; exact hown
      obtain ⟨t2, o2, la⟩ := win_more (w := w.drew) (s := S.data.toList.take R) ⟨H.out.b, H.out.o, H.out.r, H.out.g0⟩ HN.out (by rw [List.length_take, size_len]; omega) hR2 hown2 hgrow hloc
      have T2 := Lib.hid t2
      have O2 := Lib.hid (undrew o2)
      have LA : Hid (later w (.slice A n cap) (.slice A1 (n + R) cap1)) := Lib.hid la
      clear t2 o2 la hown hown2 hgrow hloc fz cz c1 f1 hO lg ag
      generalize w1.setCell ⟨g, 1, none⟩ (.slice A1 (n + R) cap1) = w3 at *
      have HC := Lib.hid (replace_any T2.out (S.extract R S.size) (by rw [size_cut]; omega) (by rw [size_cut, List.length_append, List.length_take, size_len, ← HN.out]; have := HR.out; omega))
      go_wp2_with (go_at_call 93; refine HC.out.mono ?_; rintro e w4 ⟨rfl, t4, o4⟩)
      go_end0
      have hr := put_ring (s := S.data.toList) H.out.r (by rw [size_len]; exact hS32)
      have e1 : min S.data.toList.length (32768 - l.length) = R := by rw [size_len, ← HN.out]; exact HR.out.symm
      have e2 : rep (l ++ S.data.toList.take R) x (S.extract R S.size).data.toList = putL 32768 l x S.data.toList := by unfold putL; rw [e1, cut_drop]
      have e3 : (x + (S.extract R S.size).size) % 32768 = putX 32768 l x S.data.toList := by unfold putX; rw [e1, ← cut_drop, size_len]
      rw [e2, e3] at t4
      exact ⟨rfl, _, _, _, t4, hr.2.trans HP.out.symm, O2.out.then o4 (later_own LA.out), LA.out⟩
    · obtain ⟨K, hK⟩ : ∃ K, K = s.size - 32768 := ⟨_, rfl⟩
      obtain ⟨S, hS⟩ : ∃ S, S = s.extract K s.size := ⟨_, rfl⟩
      have hSs : S.size = 32768 := by rw [hS, size_cut]; omega
      have hS32 : S.size ≤ 32768 := by omega
      have HP : Hid (Wm.put 32768 (cont l x) s.data.toList = Wm.put 32768 (cont l x) S.data.toList) := Lib.hid (put_cut _ (by omega) (by rw [hS, hK]))
      have hK1 : ((s.size : Int) - 32768).toNat = K := by omega
      have hS1 : s.extract K s.size = S := hS.symm
      have hM : s.size - K = S.size := by omega
      obtain ⟨R, hR⟩ : ∃ R, R = min S.size (32768 - n) := ⟨_, rfl⟩
      have HR := Lib.hid hR
      have hRs : 32768 - (n : Int) = (R : Int) := by omega
      clear hR
      clear hS hK hSs
      go_enter Tryz.func61, Tryz.ntmps61
      go_wp2_with (go_at_call 70; refine hN.out.mono ?_; rintro e w' ⟨rfl, rfl⟩)
      clear hRs hK1 hS1 hM
      have hR1 : R ≤ S.size := by have := HR.out; omega
      have hR2 : n + R ≤ 32768 := by have := HR.out; omega
      have hsz : (S.extract 0 R).size = R := by rw [← size_len, cut_take, List.length_take, size_len]; omega
      have HSZ := Lib.hid hsz
      clear hsz
      go_region_law (refine step_str_at _ (by rfl) _ _ 62 9 (by rfl) base 5 i0 Tryz.underlying62 Tryz.underlying9 hi hz0 hz1 hz2 (.slice A n cap) n (Bs l) (by rfl) hO (S.extract 0 R) (by rfl) (by rw [HSZ.out]; unfold maxLen; omega) (by rw [HSZ.out]; omega) hb0 ?_; rw [HSZ.out]; intro A1 cap1 w1 hown hgrow hloc; have fz := below_frozen hgrow lg ag f1; have cz := (hgrow.cell_far ⟨g, 1, none⟩ lg (Ne.symm ag)).trans c1)
      have hown2 : w1.ownsRow base 5 1 (.slice A1 (n + R) cap1) (n + R) (Bs l ++ Bs (S.data.toList.take R)) := by
        have e : Lib.strCells (S.extract 0 R) = Bs (S.data.toList.take R) := by rw [← cut_take]; rfl
        rw [← e]; exact hown
      obtain ⟨t2, o2, la⟩ := win_more (w := w.drew) (s := S.data.toList.take R) ⟨H.out.b, H.out.o, H.out.r, H.out.g0⟩ HN.out (by rw [List.length_take, size_len]; omega) hR2 hown2 hgrow hloc
      have T2 := Lib.hid t2
      have O2 := Lib.hid (undrew o2)
      have LA : Hid (later w (.slice A n cap) (.slice A1 (n + R) cap1)) := Lib.hid la
      clear t2 o2 la hown hown2 hgrow hloc fz cz c1 f1 hO lg ag
      generalize w1.setCell ⟨g, 1, none⟩ (.slice A1 (n + R) cap1) = w3 at *
      have HC := Lib.hid (replace_any T2.out (S.extract R S.size) (by rw [size_cut]; omega) (by rw [size_cut, List.length_append, List.length_take, size_len, ← HN.out]; have := HR.out; omega))
      go_wp2_with (go_at_call 93; refine HC.out.mono ?_; rintro e w4 ⟨rfl, t4, o4⟩)
      go_end0
      have hr := put_ring (s := S.data.toList) H.out.r (by rw [size_len]; exact hS32)
      have e1 : min S.data.toList.length (32768 - l.length) = R := by rw [size_len, ← HN.out]; exact HR.out.symm
      have e2 : rep (l ++ S.data.toList.take R) x (S.extract R S.size).data.toList = putL 32768 l x S.data.toList := by unfold putL; rw [e1, cut_drop]
      have e3 : (x + (S.extract R S.size).size) % 32768 = putX 32768 l x S.data.toList := by unfold putX; rw [e1, ← cut_drop, size_len]
      rw [e2, e3] at t4
      exact ⟨rfl, _, _, _, t4, hr.2.trans HP.out.symm, O2.out.then o4 (later_own LA.out), LA.out⟩
end Go.Proofs.YtnkninjdpgpkmaaGreatDoor.Wp
namespace Go.Proofs.YtnkninjdpgpkmaaGreatDoor.Wn
open Go.RowKit Go.Proofs.YtnkninjdpgpkmaaGreatDoor.Vm Go.Proofs.YtnkninjdpgpkmaaGreatDoor.Vo Go.Proofs.YtnkninjdpgpkmaaGreatDoor.Bw Go.Proofs.YtnkninjdpgpkmaaGreatDoor.Br Go.Proofs.YtnkninjdpgpkmaaGreatDoor.Wr Go.Proofs.YtnkninjdpgpkmaaGreatDoor.Wc Go.Proofs.YtnkninjdpgpkmaaGreatDoor.Ww Go.Proofs.YtnkninjdpgpkmaaGreatDoor.Wx Go.Proofs.YtnkninjdpgpkmaaGreatDoor.Wp Go.Proofs.YtnkninjdpgpkmaaGreatDoor.Wq

/-- n zeros. -/
def zs (n : Nat) : Array Value := (Bs (List.replicate n 0)).toArray
theorem made8 (n : Nat) (hn : n ≤ 1000000) (u : World) : (Instr.makeSlice 62 (.int .i64 (n : Int)) (.int .i64 (n : Int))).run Tryz.prog u = .ok (.slice (some ⟨u.heap.size, 0, none⟩) n n) (u.alloc (.cells (zs n) 5)) := by
  obtain ⟨i0, hi, hz0, hz1, hz2⟩ := info_parts info8
  have h := run_make (P := Tryz.prog) u 62 5 i0 (.int .u8 0) Tryz.underlying62 hi hz0 .i64 .i64 (n : Int) (n : Int) (by omega) (by omega) (by rw [hz2]; omega) (by omega)
  have e : madeCells (Value.int .u8 0).cells (n * i0.size) = zs n := by
    rw [hz1]
    apply Array.ext
    · simp [madeCells, zs, Bs]
    · intro j h1 h2
      simp [madeCells, zs, Bs, B, Value.cells]
      simp [Nat.mod_one]
  simp only [Int.toNat_natCast, e] at h
  exact h
theorem byts_made {w : World} {e : TypeId} (n : Nat) (hn : n ≤ 1000000) : byts (w.alloc (.cells (zs n) e)) w.heap.size e (.slice (some ⟨w.heap.size, 0, none⟩) n n) (List.replicate n 0) := by
  have h := World.ownsRow_lit (base := w.heap.size) (e := e) (size := 1) w (zs n) n (Nat.le_refl _) (by unfold maxLen; omega) (by simp [zs, Bs_length])
  unfold byts
  rw [List.length_replicate]
  exact h
theorem alloc_below (w : World) (o : Obj) : Below w.heap.size w (w.alloc o) := (Below.refl _ _).alloc (Nat.le_refl _) _
/-- What changed lies in a new block. -/
theorem only_new {w w1 w2 : World} {u : Value} {b : Nat} (h : Below w.heap.size w w1) (k : Only (of u) w1 w2) (hu : u.ownBlock = some b) (hb : w.heap.size ≤ b) : Below w.heap.size w w2 :=
  k.below h h.size (fun i hi => by have e : u.ownBlock = some i := hi; rw [hu] at e; injection e with e; omega)

theorem zeroB : ∀ w : World, (zeroValue 5).run Tryz.prog w = .ok (.int .u8 0) w := fun w => by
  obtain ⟨i0, hi, hz0, hz1, hz2⟩ := info_parts info8
  simp [zeroValue, typeInfo, hi, hz0]

/-- A new window. -/
def isNew (t : List UInt8) (w : World) (e : Ending) (w' : World) : Prop := ∃ v l x, e = .returned (.pointer (some ⟨w.heap.size, 0, none⟩)) ∧ win w.heap.size w' w.heap.size v l x ∧ cont l x = Wm.lastN 32768 t ∧ Below w.heap.size w w'
theorem win_fresh (w : World) : win w.heap.size (w.alloc (.cells #[.pointer (some ⟨w.heap.size, 0, none⟩), .slice none 0 0, .int .i64 0] 122)) w.heap.size (.slice none 0 0) [] 0 :=
  ⟨Blk.fresh w 122 _, World.ownsRow_nil _ _ _ _, ⟨Nat.zero_le _, by omega, fun _ => rfl⟩, Nat.le_refl _⟩
theorem put_nil (s : List UInt8) : Wm.put 32768 (cont [] 0) s = Wm.lastN 32768 s := by
  unfold Wm.put cont
  rw [List.drop_nil, List.take_nil, List.nil_append, List.nil_append]
theorem New_any (s : ByteArray) (hs : s.size ≤ 9223372036854775807) (w : World) : Calls Tryz.prog 29 #[.string s] w (isNew s.data.toList w) := by
  have HP := Lib.hid (fun w1 h => Put_any (base := w.heap.size) (w := w1) (g := w.heap.size) (v := .slice none 0 0) (l := []) (x := 0) h s hs)
  have HW := Lib.hid (win_fresh w)
  clear hs
  go_enter Tryz.func29, Tryz.ntmps29
  go_wp2_with (go_at_call 61; refine (HP.out _ HW.out).mono ?_; rintro e w1 ⟨rfl, v, l, x, h1, h2, h3, h4⟩; have H1 := Lib.hid h1; have H2 := Lib.hid h2; have H3 := Lib.hid h3; clear h1 h2 h3 h4)
  go_ret
  refine ⟨v, l, x, rfl, H1.out, H2.out.trans (put_nil _), H3.out.below (alloc_below _ _) (alloc_below _ _).size (fun i hi => ?_)⟩
  rcases hi with rfl | hi
  · exact Nat.le_refl _
  · simp [Value.ownBlock] at hi

theorem last_end {w w1 : World} {base k : Nat} {l : List UInt8} {P : List UInt8} (hP : P = splice (List.replicate k 0) 0 ((Wm.lastN k l).take k)) (hk : k ≤ l.length) (h : byts w1 base 5 (.slice (some ⟨w.heap.size, 0, none⟩) k k) P) :
    (convert 62 9 (.slice (some ⟨w.heap.size, 0, none⟩) k k)).run Tryz.prog w1 = .ok (.string ⟨(Wm.lastN k l).toArray⟩) w1 := by
  have hl : (Wm.lastN k l).length = k := by rw [Wm.lastN_length]; omega
  have e : P = Wm.lastN k l := by
    rw [hP, List.take_of_length_le (by omega)]
    unfold splice
    rw [List.take_zero, List.nil_append, hl, Nat.zero_add, List.drop_eq_nil_of_le (by simp), List.append_nil]
  rw [← e]
  exact own_string (P := Tryz.prog) (dst := 9) Tryz.underlying62 Tryz.underlying5 Tryz.underlying9 h

set_option maxRecDepth 100000 in
theorem last_k {base : Nat} {w : World} {g : Nat} {v : Value} {l : List UInt8} {x : Nat} (h : win base w g v l x) {n : Int} {k : Nat} (hn : (n < 0 ∧ k = 0) ∨ (n = (k : Int) ∧ k ≤ l.length) ∨ ((l.length : Int) < n ∧ k = l.length)) :
    Calls Tryz.prog 71 #[.pointer (some ⟨g, 0, none⟩), .int .i64 n] w fun e w' => e = .returned (.string ⟨(Wm.lastN k (cont l x)).toArray⟩) ∧ Below w.heap.size w w' := by
  have hN := Lib.hid (none_any h.b)
  have c1 := h.b.c1
  have hk : k ≤ l.length := by omega
  have hle := h.r.le
  have hmk := made8 k (by omega)
  have HX := Lib.hid (h.below (alloc_below w (.cells (zs k) 5)))
  have HY := Lib.hid (byts_made (w := w) (e := 5) k (by omega))
  have hv : v.ownBlock ≠ some w.heap.size := fun e => by have := h.hi _ (.inr e); omega
  have HC := Lib.hid (read_any (b := w.heap.size) (k := k) (oc := k) (d := k) HX.out HY.out rfl hv (by rw [List.length_replicate]; exact Nat.le_refl _) (Nat.le_refl _) (Nat.le_refl _) hk)
  have HK : Hid (k ≤ (cont l x).length) := Lib.hid (by rw [cont_length]; exact hk)
  obtain ⟨A, cap, hv'⟩ := h.o.form
  subst hv'
  clear h hv hk HX HY hle
  rcases hn with ⟨h1, h2⟩ | ⟨h1, h2⟩ | ⟨h1, h2⟩
  · subst h2
    have hmk0 : ∀ u : World, (Instr.makeSlice 62 (.int .i64 0) (.int .i64 0)).run Tryz.prog u = .ok (.slice (some ⟨u.heap.size, 0, none⟩) 0 0) (u.alloc (.cells (zs 0) 5)) := hmk
    obtain ⟨Z, hZ⟩ : ∃ Z, Z = zs 0 := ⟨_, rfl⟩
    rw [← hZ] at hmk0 HC
    obtain ⟨m, hm⟩ : ∃ m, m = l.length := ⟨_, rfl⟩
    rw [← hm] at c1
    clear hmk hZ hm
    go_enter Tryz.func71, Tryz.ntmps71
    go_wp2_with (first | (go_at_call 70; refine hN.out.mono ?_; rintro e w' ⟨rfl, rfl⟩) | (go_at_call 108; refine HC.out.mono ?_; rintro e w2 ⟨rfl, b2, o2⟩; have hcv := last_end rfl HK.out b2; have B2 := Lib.hid b2; have O2 := Lib.hid o2; clear b2 o2))
    go_ret
    exact ⟨rfl, only_new (alloc_below _ _) O2.out rfl (Nat.le_refl _)⟩
  · subst h1
    obtain ⟨Z, hZ⟩ : ∃ Z, Z = zs k := ⟨_, rfl⟩
    rw [← hZ] at hmk HC
    obtain ⟨m, hm⟩ : ∃ m, m = l.length := ⟨_, rfl⟩
    rw [← hm] at c1 h2
    clear hZ hm
    go_enter Tryz.func71, Tryz.ntmps71
    go_wp2_with (first | (go_at_call 70; refine hN.out.mono ?_; rintro e w' ⟨rfl, rfl⟩) | (go_at_call 108; refine HC.out.mono ?_; rintro e w2 ⟨rfl, b2, o2⟩; have hcv := last_end rfl HK.out b2; have B2 := Lib.hid b2; have O2 := Lib.hid o2; clear b2 o2))
    go_ret
    exact ⟨rfl, only_new (alloc_below _ _) O2.out rfl (Nat.le_refl _)⟩
  · obtain ⟨Z, hZ⟩ : ∃ Z, Z = zs k := ⟨_, rfl⟩
    rw [← hZ] at hmk HC
    rw [← h2] at c1 h1
    clear hZ h2
    go_enter Tryz.func71, Tryz.ntmps71
    go_wp2_with (first | (go_at_call 70; refine hN.out.mono ?_; rintro e w' ⟨rfl, rfl⟩) | (go_at_call 108; refine HC.out.mono ?_; rintro e w2 ⟨rfl, b2, o2⟩; have hcv := last_end rfl HK.out b2; have B2 := Lib.hid b2; have O2 := Lib.hid o2; clear b2 o2))
    go_ret
    exact ⟨rfl, only_new (alloc_below _ _) O2.out rfl (Nat.le_refl _)⟩
theorem Last_any {base : Nat} {w : World} {g : Nat} {v : Value} {l : List UInt8} {x : Nat} (h : win base w g v l x) (n : Int) :
    Calls Tryz.prog 71 #[.pointer (some ⟨g, 0, none⟩), .int .i64 n] w fun e w' => e = .returned (.string ⟨(Wm.lastN n.toNat (cont l x)).toArray⟩) ∧ Below w.heap.size w w' := by
  rcases (show n < 0 ∨ (0 ≤ n ∧ n ≤ l.length) ∨ (l.length : Int) < n by omega) with h1 | h1 | h1
  · have e : n.toNat = 0 := by omega
    rw [e]; exact last_k h (.inl ⟨h1, rfl⟩)
  · exact last_k h (.inr (.inl ⟨by omega, by omega⟩))
  · have e : Wm.lastN n.toNat (cont l x) = Wm.lastN l.length (cont l x) := by
      rw [Wm.lastN_all (by rw [cont_length]; omega), Wm.lastN_all (by rw [cont_length]; exact Nat.le_refl _)]
    rw [e]; exact last_k h (.inr (.inr ⟨h1, rfl⟩))
end Go.Proofs.YtnkninjdpgpkmaaGreatDoor.Wn
namespace Go.Proofs.YtnkninjdpgpkmaaGreatDoor.Wo
open Go.RowKit Go.Proofs.YtnkninjdpgpkmaaGreatDoor.Vm Go.Proofs.YtnkninjdpgpkmaaGreatDoor.Vo Go.Proofs.YtnkninjdpgpkmaaGreatDoor.Bw Go.Proofs.YtnkninjdpgpkmaaGreatDoor.Br Go.Proofs.YtnkninjdpgpkmaaGreatDoor.Wr Go.Proofs.YtnkninjdpgpkmaaGreatDoor.Wc Go.Proofs.YtnkninjdpgpkmaaGreatDoor.Ww Go.Proofs.YtnkninjdpgpkmaaGreatDoor.Wx Go.Proofs.YtnkninjdpgpkmaaGreatDoor.Wp Go.Proofs.YtnkninjdpgpkmaaGreatDoor.Wq Go.Proofs.YtnkninjdpgpkmaaGreatDoor.Wn

theorem byts_none {w : World} {base : Nat} {e : TypeId} {A : Option Addr} {n cap : Nat} {l : List UInt8} (h : byts w base e (.slice A n cap) l) : byts w base e (.slice A 0 cap) [] := by
  rcases h.2 with ⟨e0, _⟩ | ⟨g, c, cur, e1, hb, hc, h1, h2, h3, _⟩
  · injection e0 with e1 _ e2
    subst e1; subst e2
    exact World.ownsRow_nil _ _ _ _
  · injection e1 with e1 _ e2
    subst e1; subst e2
    exact ⟨rfl, .inr ⟨g, cap, cur, rfl, hb, hc, Nat.zero_le _, h2, h3, by simp [Bs]⟩⟩

theorem win_mono {base b0 : Nat} {w : World} {g : Nat} {v : Value} {l : List UInt8} {x : Nat} (h : win base w g v l x) (hb : b0 ≤ base) : win b0 w g v l x := by
  refine ⟨h.b, ⟨h.o.1, ?_⟩, h.r, Nat.le_trans hb h.g0⟩
  rcases h.o.2 with k | ⟨g, c, cur, e1, h1, k⟩
  · exact .inl k
  · exact .inr ⟨g, c, cur, e1, Nat.le_trans hb h1, k⟩
/-- Twin: another window with the same content. -/
def isTwin (c : List UInt8) (w : World) (e : Ending) (w' : World) : Prop := ∃ g v l x, e = .returned (.pointer (some ⟨g, 0, none⟩)) ∧ win w.heap.size w' g v l x ∧ cont l x = c ∧ Below w.heap.size w w'
theorem Twin_any {base : Nat} {w : World} {g : Nat} {v : Value} {l : List UInt8} {x : Nat} (h : win base w g v l x) :
    Calls Tryz.prog 37 #[.pointer (some ⟨g, 0, none⟩)] w (isTwin (cont l x) w) := by
  have hN := Lib.hid (none_any h.b)
  have hc : (cont l x).length ≤ 32768 := by rw [cont_length]; exact h.r.le
  have hL := Last_any h 32768
  have e : Wm.lastN (32768 : Int).toNat (cont l x) = cont l x := Wm.lastN_all hc
  rw [e] at hL
  have HL := Lib.hid hL
  obtain ⟨S, hS⟩ : ∃ S : ByteArray, S = ⟨(cont l x).toArray⟩ := ⟨_, rfl⟩
  rw [← hS] at HL
  have hSl : S.data.toList = cont l x := by rw [hS]
  have hSs : S.size ≤ 9223372036854775807 := by rw [← size_len, hSl]; omega
  have HC : Hid (∀ w1 e w', isNew S.data.toList w1 e w' → Below w.heap.size w w1 → isTwin (cont l x) w e w') := Lib.hid (fun w1 e w' hn hb => by
    obtain ⟨v', l', x', rfl, h1, h2, h3⟩ := hn
    rw [hSl, Wm.lastN_all hc] at h2
    exact ⟨_, v', l', x', rfl, win_mono h1 hb.size, h2, grows hb h3⟩)
  clear hS hSl hc hL e h
  go_enter Tryz.func37, Tryz.ntmps37
  go_wp2_with (first | (go_at_call 70; refine hN.out.mono ?_; rintro e w' ⟨rfl, rfl⟩) | (go_at_call 71; refine HL.out.mono ?_; rintro e w1 ⟨rfl, b1⟩; have B1 := Lib.hid b1; clear b1) | (go_at_call 29; refine (New_any S hSs _).mono ?_; rintro e w2 hn; have HT := Lib.hid (HC.out _ _ _ hn B1.out); clear HC; obtain ⟨v2, l2, x2, rfl, _, _, _⟩ := hn))
  go_ret
  exact HT.out
end Go.Proofs.YtnkninjdpgpkmaaGreatDoor.Wo
namespace Go.Proofs.YtnkninjdpgpkmaaGreatDoor.Wd
open Go.RowKit Go.Proofs.YtnkninjdpgpkmaaGreatDoor.Vm Go.Proofs.YtnkninjdpgpkmaaGreatDoor.Vo Go.Proofs.YtnkninjdpgpkmaaGreatDoor.Bw Go.Proofs.YtnkninjdpgpkmaaGreatDoor.Br Go.Proofs.YtnkninjdpgpkmaaGreatDoor.Wr Go.Proofs.YtnkninjdpgpkmaaGreatDoor.Wc Go.Proofs.YtnkninjdpgpkmaaGreatDoor.Ww Go.Proofs.YtnkninjdpgpkmaaGreatDoor.Wx Go.Proofs.YtnkninjdpgpkmaaGreatDoor.Wp Go.Proofs.YtnkninjdpgpkmaaGreatDoor.Wq Go.Proofs.YtnkninjdpgpkmaaGreatDoor.Wn Go.Proofs.YtnkninjdpgpkmaaGreatDoor.Wo

/-- What Copy answers beside the bytes. -/
def copE (m : Nat) (d n : Int) : Int := if n < 0 ∨ 65536 < n ∨ d < 1 then 1 else if (m : Int) < d then 10 else 0
theorem copE_cases (m : Nat) (d n : Int) : (copE m d n = 1 ∧ (n < 0 ∨ 65536 < n ∨ d < 1)) ∨ (copE m d n = 10 ∧ 0 ≤ n ∧ n ≤ 65536 ∧ 1 ≤ d ∧ (m : Int) < d) ∨ (copE m d n = 0 ∧ ∃ D N : Nat, d = (D : Int) ∧ n = (N : Int) ∧ N ≤ 65536 ∧ 1 ≤ D ∧ D ≤ m) := by
  unfold copE
  by_cases h1 : n < 0 ∨ 65536 < n ∨ d < 1
  · rw [if_pos h1]; exact .inl ⟨rfl, h1⟩
  · rw [if_neg h1]
    by_cases h2 : (m : Int) < d
    · rw [if_pos h2]; exact .inr (.inl ⟨rfl, by omega, by omega, by omega, h2⟩)
    · rw [if_neg h2]; exact .inr (.inr ⟨rfl, d.toNat, n.toNat, by omega, by omega, by omega, by omega, by omega⟩)

set_option maxRecDepth 100000 in
theorem Copy_no {base : Nat} {w : World} {g : Nat} {v : Value} {l : List UInt8} {x : Nat} (h : win base w g v l x) (d n : Int) (he : copE l.length d n ≠ 0) :
    Calls Tryz.prog 164 #[.pointer (some ⟨g, 0, none⟩), .int .i64 d, .int .i64 n] w fun e w' => e = .returned (.tuple #[.string ⟨#[]⟩, .int .i64 (copE l.length d n)]) ∧ w = w' := by
  have hN := Lib.hid (none_any h.b)
  have c1 := h.b.c1
  obtain ⟨A, cap, hv⟩ := h.o.form
  subst hv
  obtain ⟨m, hm⟩ : ∃ m, m = l.length := ⟨_, rfl⟩
  rw [← hm] at c1 he ⊢
  clear hm h
  rcases copE_cases m d n with ⟨e, hc⟩ | ⟨e, h1, h2, h3, h4⟩ | ⟨e, _⟩
  · rw [e]
    clear he e
    rcases (show n < 0 ∨ (0 ≤ n ∧ 65536 < n) ∨ (0 ≤ n ∧ n ≤ 65536 ∧ d < 1) by omega) with h1 | ⟨h0, h1⟩ | ⟨h0, h2, h1⟩
    all_goals
      clear hc
      go_enter Tryz.func164, Tryz.ntmps164
      go_wp2_with (go_at_call 70; refine hN.out.mono ?_; rintro e w' ⟨rfl, rfl⟩)
      go_ret2
      exact ⟨rfl, rfl⟩
  · rw [e]
    clear he e
    go_enter Tryz.func164, Tryz.ntmps164
    go_wp2_with (go_at_call 70; refine hN.out.mono ?_; rintro e w' ⟨rfl, rfl⟩)
    go_ret2
    exact ⟨rfl, rfl⟩
  · exact absurd e he

/-- What is behind Copy where it copies. -/
def copied (base g : Nat) (v : Value) (c : List UInt8) (D N : Nat) (w : World) (e : Ending) (w' : World) : Prop :=
  e = .returned (.tuple #[.string ⟨(Wm.out c D N).toArray⟩, .int .i64 0]) ∧ ∃ v' l' x', win base w' g v' l' x' ∧ cont l' x' = Wm.put 32768 c (Wm.out c D N) ∧ Only (own g v) w w' ∧ later w v v'

/-- The bytes while they are doubled. -/
structure fill (base : Nat) (w2 : World) (u : Value) (t : List UInt8) (D N E : Nat) (b : List UInt8) (wr : World) : Prop where
  q : ∃ q, E = D * q
  o : byts wr base 5 u b
  len : b.length = N
  r : rept b t D E
  k : Only (of u) w2 wr
theorem fill_start {base : Nat} {w2 : World} {u : Value} {t P : List UInt8} {D N K : Nat} (hK : K = min D N) (ht : t.length = D) (hP : P = splice (List.replicate N 0) 0 (t.take K)) (h : byts w2 base 5 u P) : fill base w2 u t D N D P w2 := by
  have hl : (t.take K).length = K := by rw [List.length_take]; omega
  have hPl : P.length = N := by rw [hP, splice_len, List.length_replicate]; rw [hl, List.length_replicate]; omega
  refine ⟨⟨1, by omega⟩, h, hPl, rept_start ?_, Only.refl _ _⟩
  rw [hPl, ← hK, hP]
  unfold splice
  rw [List.take_zero, List.nil_append, List.take_append_of_le_length (by omega), List.take_take, Nat.min_self]
theorem fill_more {base : Nat} {w2 wr w3 : World} {u : Value} {t b : List UInt8} {D N E k : Nat} (h : fill base w2 u t D N E b wr) (hE : E < N) (hk : k = min E (N - E)) (h3 : byts w3 base 5 u (splice b E (b.take k))) (o3 : Only (of u) wr w3) : fill base w2 u t D N (E * 2) (splice b E (b.take k)) w3 := by
  obtain ⟨q, hq⟩ := h.q
  have hl : (b.take k).length = k := by rw [List.length_take, h.len]; omega
  refine ⟨⟨q * 2, by rw [hq, Nat.mul_assoc]⟩, h3, ?_, ?_, h.k.trans o3⟩
  · rw [splice_len, h.len]; rw [hl, h.len]; omega
  · have hr := h.r
    have e : rept (splice b (D * q) (b.take (min (b.length - D * q) (D * q)))) t D (2 * (D * q)) := rept_more (by rw [h.len, ← hq]; exact hE) (by rw [← hq]; exact hr)
    rw [← hq, h.len, Nat.min_comm, ← hk, Nat.mul_comm] at e
    exact e
theorem later_from {w wr : World} {v v' : Value} (h : later wr v v') (hs : w.heap.size ≤ wr.heap.size) : later w v v' := by
  rcases h with h | ⟨k, hk, h⟩
  · exact .inl h
  · exact .inr ⟨k, by omega, h⟩

set_option maxHeartbeats 2000000 in
set_option maxRecDepth 100000 in
theorem Copy_ok {base : Nat} {w : World} {g : Nat} {v : Value} {l : List UInt8} {x : Nat} (h : win base w g v l x) {D N : Nat} (hN6 : N ≤ 65536) (hD : 1 ≤ D) (hDl : D ≤ l.length) :
    Calls Tryz.prog 164 #[.pointer (some ⟨g, 0, none⟩), .int .i64 D, .int .i64 N] w (copied base g v (cont l x) D N w) := by
  have hN := Lib.hid (none_any h.b)
  have c1 := h.b.c1
  have hle := h.r.le
  have hmk := made8 N (by omega)
  obtain ⟨Z, hZ⟩ : ∃ Z, Z = zs N := ⟨_, rfl⟩
  have HX := Lib.hid (h.below (alloc_below w (.cells (zs N) 5)))
  have HY := Lib.hid (byts_made (w := w) (e := 5) N (by omega))
  have hvb : v.ownBlock ≠ some w.heap.size := fun e => by have := h.hi _ (.inr e); omega
  have hgb : g ≠ w.heap.size := by have := h.b.lt; omega
  obtain ⟨K, hK⟩ : ∃ K, K = min D N := ⟨_, rfl⟩
  obtain ⟨P, hP⟩ : ∃ P, P = splice (List.replicate N 0) 0 ((Wm.lastN D (cont l x)).take K) := ⟨_, rfl⟩
  have HC := Lib.hid (read_any (b := w.heap.size) (k := K) (oc := N) (d := D) HX.out HY.out rfl hvb (by rw [List.length_replicate]; omega) (by omega) (by omega) hDl)
  have HT : Hid ((Wm.lastN D (cont l x)).length = D) := Lib.hid (by rw [Wm.lastN_length, cont_length]; omega)
  have HCL : Hid (D ≤ (cont l x).length) := Lib.hid (by rw [cont_length]; exact hDl)
  have HWE : Hid (∀ wr, Only (of (.slice (some ⟨w.heap.size, 0, none⟩) N N)) (w.alloc (.cells (zs N) 5)) wr → win base wr g v l x ∧ Below w.heap.size w wr) := Lib.hid (fun wr k => ⟨HX.out.only k (fun i hi e => by
      have e' : some w.heap.size = some i := e
      injection e' with e'
      rcases hi with rfl | hi
      · exact hgb e'.symm
      · exact hvb (by rw [e']; exact hi)), only_new (alloc_below _ _) k rfl (Nat.le_refl _)⟩)
  rw [← hZ] at hmk HC HWE
  rw [← hP] at HC
  clear hZ HX HY
  obtain ⟨A, cap, hv'⟩ := h.o.form
  subst hv'
  obtain ⟨m, hm⟩ : ∃ m, m = l.length := ⟨_, rfl⟩
  rw [← hm] at c1 hDl hle HWE ⊢
  have HK := Lib.hid hK
  have HP := Lib.hid hP
  have d1 : decide ((N : Int) < 0) = false := by simp
  have d2 : decide (65536 < (N : Int)) = false := by simp; omega
  have d3 : decide ((D : Int) < 1) = false := by simp; omega
  clear hm h hK hvb hP hgb
  by_cases hDN : D ≤ N
  all_goals
    first
    | (have hKD : K = D := by have := HK.out; omega)
    | (have hKD : K = N := by have := HK.out; omega)
    have HKD := Lib.hid hKD
    rw [hKD] at HC
    clear hKD
    go_enter Tryz.func164, Tryz.ntmps164
    go_wp2_with (first | (go_at_call 70; refine hN.out.mono ?_; rintro e w' ⟨rfl, rfl⟩) | (go_at_call 108; refine HC.out.mono ?_; rintro e w2 ⟨rfl, b2, o2⟩; have B2 := Lib.hid b2; have O2 := Lib.hid o2; clear b2 o2))
    clear c1 hmk d1 d2 d3
    go_loopw [9] (fun s9 wr => ∃ (E : Nat) (b : List UInt8), s9 = .int .i64 E ∧ 1 ≤ E ∧ E ≤ 131072 ∧ Hid (fill w.heap.size w2 (.slice (some ⟨w.heap.size, 0, none⟩) N N) (Wm.lastN D (cont l x)) D N E b wr))
      (fun s9 _ => N - (intOf s9).toNat)
    case atStart => exact ⟨D, P, rfl, hD, by omega, Lib.hid (fill_start HK.out HT.out HP.out B2.out)⟩
    case round =>
      obtain ⟨E, b, rfl, hE1, hE2, HF⟩ := hrel
      by_cases hEN : E < N
      · obtain ⟨O', hcut, hO'⟩ := cut_low (A := some ⟨w.heap.size, 0, none⟩) (cap := N) (Nat.le_of_lt hEN)
        have HO := Lib.hid hO'
        have hcut2 := fun u => cut_high (A := some ⟨w.heap.size, 0, none⟩) (n := N) (Nat.le_of_lt hEN) u
        clear hO'
        go_wp2_with fail
        go_still_tail 6, (by kernel_rfl)
        change wpList _ _ _ _ _ wr.drew
        obtain ⟨k, hk⟩ : ∃ k, k = min E (N - E) := ⟨_, rfl⟩
        have HKK := Lib.hid hk
        clear hk
        refine wpList_copy_sl rfl (.tmp 51) (.tmp 54) 62 62 rfl 5 Tryz.underlying62 size8 O' (some ⟨w.heap.size, 0, none⟩) (N - E) (N - E) E N rfl rfl k HKK.out w.heap.size (.slice (some ⟨w.heap.size, 0, none⟩) N N) b HF.out.o E (b.take k) ?p0 ?p1 ?p2 ?_
        case p0 => rw [List.length_take, HF.out.len]; have := HKK.out; omega
        case p1 =>
          intro h0
          have := HKK.out
          refine ⟨⟨w.heap.size, rfl, HO.out _ rfl hEN⟩, w.heap.size, 0, rfl, fun j hj => ?_⟩
          have e : wr.drew.cell? ⟨w.heap.size, j, none⟩ = b[j]?.map Vm.B := byts.cell (cap := N) HF.out.o HF.out.len.symm j (by omega)
          rw [List.getElem?_take, if_pos hj, Nat.zero_add]
          exact e
        case p2 => rw [HF.out.len]; have := HKK.out; omega
        intro w3 B3 O3
        have HF3 := Lib.hid (fill_more HF.out hEN HKK.out B3.out (undrew O3.out))
        clear hcut hcut2
        go_wp2
        go_roundw
        case rel => exact ⟨E * 2, _, by go_num, by omega, by omega, HF3⟩
        case measure => simp [intOf]; omega
      · have hcv := own_string (P := Tryz.prog) (dst := 9) Tryz.underlying62 Tryz.underlying5 Tryz.underlying9 HF.out.o
        have hbo : b = Wm.out (cont l x) D N := by
          have e := rept_out hD HCL.out (by rw [HF.out.len]; omega) HF.out.r
          rw [HF.out.len] at e
          exact e
        obtain ⟨W1, W2⟩ := HWE.out wr (O2.out.trans HF.out.k)
        obtain ⟨S, hS⟩ : ∃ S : ByteArray, S = ⟨b.toArray⟩ := ⟨_, rfl⟩
        rw [← hS] at hcv
        have hSl : S.data.toList = b := by rw [hS]
        have hss : S.size ≤ 9223372036854775807 := by rw [← size_len, hSl, HF.out.len]; omega
        have HPU := Lib.hid (Put_any W1 S hss)
        have HB2 := Lib.hid W2
        have HSL := Lib.hid (hSl.trans hbo)
        have HS : Hid (S = ⟨(Wm.out (cont l x) D N).toArray⟩) := Lib.hid (by rw [hS, hbo])
        clear hbo W1 W2 hS hSl hss
        go_wp2_with (go_at_call 61; refine HPU.out.mono ?_; rintro e w4 ⟨rfl, v4, l4, x4, h1, h2, h3, h4⟩; have H1 := Lib.hid h1; have H2 := Lib.hid h2; have H3 := Lib.hid h3; have H4 := Lib.hid h4; clear h1 h2 h3 h4)
        go_ret2
        refine ⟨ret_str_int HS.out rfl, v4, l4, x4, H1.out, ?_, (Only.of_below HB2.out).trans H3.out, later_from H4.out HB2.out.size⟩
        rw [← HSL.out]
        exact H2.out
end Go.Proofs.YtnkninjdpgpkmaaGreatDoor.Wd
