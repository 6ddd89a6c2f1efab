/-
  The reference's Split: its result.
  Conditions: as each theorem says.
-/
import Derived.Test.YtnkninjdpgpkmaaDoorQbm
import Derived.Test.YtnkninjdpgpkmaaDoorQbl
import Derived.Deep.DeepCutAuto
import Derived.Deep.LoopGhost
namespace Go.Proofs.YtnkninjdpgpkmaaDoor.Hz
open Go.RowKit Go.PlainAid Go.Proofs.YtnkninjdpgpkmaaDoor.Vm Go.Proofs.YtnkninjdpgpkmaaDoor.Vo Go.Proofs.YtnkninjdpgpkmaaDoor.Bm Go.Proofs.YtnkninjdpgpkmaaDoor.Bw Go.Proofs.YtnkninjdpgpkmaaDoor.Na Go.Proofs.YtnkninjdpgpkmaaDoor.Nm Go.Proofs.YtnkninjdpgpkmaaDoor.Gm Go.Proofs.YtnkninjdpgpkmaaDoor.Ga Go.Proofs.YtnkninjdpgpkmaaDoor.Gr Go.Proofs.YtnkninjdpgpkmaaDoor.Gp Go.Proofs.YtnkninjdpgpkmaaDoor.Gt Go.Proofs.YtnkninjdpgpkmaaDoor.Hm Go.Proofs.YtnkninjdpgpkmaaDoor.Ho Go.Proofs.YtnkninjdpgpkmaaDoor.Hp Go.Proofs.YtnkninjdpgpkmaaDoor.Hq Go.Proofs.YtnkninjdpgpkmaaDoor.Hs

/-- What is left to be cut of a text of N bytes, m of them left, k pieces made. -/
def left' (n N k m : Nat) (R : List (Nat × Nat)) : Prop := (R = [] ∧ m = 0 ∧ 0 < k) ∨ (∃ f, m ≤ f ∧ m ≤ N ∧ R = pcsF n f (N - m) m ∧ (0 < m ∨ k = 0))
theorem left_start (n N : Nat) : left' n N 0 N (pcs n N) := .inr ⟨N, Nat.le_refl _, Nat.le_refl _, by unfold pcs; rw [Nat.sub_self], .inr rfl⟩
theorem left_done {n N k m : Nat} {R : List (Nat × Nat)} (h : left' n N k m R) (hm : ¬ 0 < m) (hk : k ≠ 0) : R = [] := by
  rcases h with ⟨h, _⟩ | ⟨f, _, _, _, h⟩
  · exact h
  · omega
theorem left_next {n N k m : Nat} {R : List (Nat × Nat)} (h : left' n N k m R) (hn : 1 ≤ n) (hgo : 0 < m ∨ k = 0) : ∃ R', R = (N - m, min m n) :: R' ∧ left' n N (k + 1) (m - min m n) R' := by
  rcases h with ⟨_, h1, h2⟩ | ⟨f, h1, h2, h3, _⟩
  · omega
  · by_cases hnm : n < m
    · obtain ⟨f', rfl⟩ : ∃ f', f = f' + 1 := ⟨f - 1, by omega⟩
      rw [pcsF_next hnm] at h3
      rw [Nat.min_eq_right (Nat.le_of_lt hnm)]
      exact ⟨_, h3, .inr ⟨f', by omega, by omega, by rw [show N - (m - n) = N - m + n by omega], .inl (by omega)⟩⟩
    · rw [pcsF_end hnm] at h3
      rw [Nat.min_eq_left (by omega)]
      exact ⟨[], h3, .inl ⟨rfl, by omega, by omega⟩⟩
/-- Parts of the reference's in a row of the call's own. -/
structure rpcs (base : Nat) (w : World) (v : Value) (L : List Pc) : Prop where
  o : w.ownsRow base 47 5 v L.length (Pcs L)
  m : ∀ p ∈ L, pcM base w p
theorem rpcs.below {base : Nat} {w w' : World} {v : Value} {L : List Pc} (h : rpcs base w v L) (k : Below w.heap.size w w') : rpcs base w' v L :=
  ⟨own_only (S := fun _ => False) h.o (Only.of_below k) (fun _ _ e => e), fun p hp => (h.m p hp).below k⟩
/-- Read as parts that come. -/
theorem rpcs.read {base : Nat} {w : World} {A : Option Addr} {n c : Nat} {L : List Pc} (h : rpcs base w (.slice A n c) L) : ptr w A (L.map Pc.pz) := by
  intro i z hz
  rw [List.getElem?_map] at hz
  obtain ⟨p, hp, rfl⟩ := Option.map_eq_some_iff.1 hz
  have hm := h.m p (List.mem_of_getElem? hp)
  rcases h.o.2 with ⟨e0, h0⟩ | ⟨g, c', cur, e1, hbl, hh, _⟩
  · have := (List.getElem?_eq_some_iff.1 hp).1
    omega
  · injection e1 with e1 _ _
    have e : ∀ j, (⟨g, 0, none⟩ : Addr).add j = ⟨g, j, none⟩ := fun j => by unfold Addr.add; split <;> simp_all
    have cc := World.ownsRow.cells (g := g) h.o (by rw [e1]; rfl)
    obtain ⟨g1, g2, g3, g4, g5⟩ := Pcs_get L i p hp
    have c1 := cc _ _ g1
    have c2 := cc _ _ g2
    have c3 := cc _ _ g3
    have c4 := cc _ _ g4
    have c5 := cc _ _ g5
    rw [e] at c1 c2 c3 c4 c5
    refine ⟨g, 0, e1, (World.ownsRow.lt h.o g (by rw [e1]; rfl)).2, ?_⟩
    rw [Nat.zero_add]
    have hk := hm.k
    refine ⟨⟨by show -9223372036854775808 ≤ (p.k : Int); omega, by show (p.k : Int) ≤ _; omega⟩, c1, c2, ⟨p.A, p.c, ?_, hm.o.read hm.n⟩, ⟨none, 0, c4, row_none _ _ _, by show (0 : Nat) ≤ _; omega⟩, ⟨none, 0, c5, row_none _ _ _, by show (0 : Nat) ≤ _; omega⟩⟩
    rw [c3]
    show some (Value.slice p.A p.os.length p.c) = some (Value.slice p.A (p.os.map Opx.int).length p.c)
    rw [List.length_map]
theorem infoRp : (Tryd.prog.info? 47).map (fun i => (i.zero, i.size, i.bytes)) = some (some (.agg #[.int .i64 0, .string ⟨#[]⟩, .slice none 0 0, .slice none 0 0, .slice none 0 0]), 5, 96) := by kernel_rfl
theorem cut_low {S : ByteArray} {k : Nat} (h : k ≤ S.size) (u : World) : (Instr.slice 9 (.string S) none (some (.int .i64 (k : Int))) none).run Tryd.prog u = .ok (.string (S.extract 0 k)) u := by
  have g1 : ¬ S.size < k := by omega
  go_simp
theorem cut_high {S : ByteArray} {k : Nat} (h : k ≤ S.size) (u : World) : (Instr.slice 9 (.string S) (some (.int .i64 (k : Int))) none none).run Tryd.prog u = .ok (.string (S.extract k S.size)) u := by
  have g1 : ¬ S.size < k := by omega
  go_simp
theorem ext_list (S : ByteArray) (a b : Nat) : (S.extract a b).data.toList = (S.data.toList.drop a).take (b - a) := by
  rw [ByteArray.data_extract, Array.toList_extract, List.extract_eq_take_drop]

set_option maxHeartbeats 4000000 in
set_option maxRecDepth 100000 in
theorem rSplit_any {s : ByteArray} {z : Int} (hs : s.size ≤ 1000000) (w : World) :
    Calls Tryd.prog 12 #[.string s, .int .i64 z] w fun e w' => ∃ A c L, e = .returned (.slice A L.length c) ∧ L.map Pc.sp = partsOf s.data.toList 0 (pcs (pn z) s.size) ∧ rpcs w.heap.size w' (.slice A L.length c) L ∧ Below w.heap.size w w' := by
  obtain ⟨l, hl⟩ : ∃ l, l = s.data.toList := ⟨_, rfl⟩
  rw [← hl]
  have HL := Lib.hid hl
  obtain ⟨i0, hi, hz0, hz1, hz2⟩ := info_parts infoRp
  obtain ⟨n, hn⟩ : ∃ n, n = pn z := ⟨_, rfl⟩
  have hnle := pn_le z
  rw [← hn] at hnle ⊢
  obtain ⟨N, hN⟩ : ∃ N, N = s.size := ⟨_, rfl⟩
  have HNS := Lib.hid hN
  rw [← hN] at hs ⊢
  obtain ⟨Q, hQ⟩ : ∃ Q, Q = pcs n N := ⟨_, rfl⟩
  rw [← hQ]
  have HQ := Lib.hid hQ
  obtain ⟨BB, hBB⟩ : ∃ BB : Bool, BB = decide (z < 1 ∨ 65535 < z) := ⟨_, rfl⟩
  have HBB := Lib.hid hBB
  have HZ1 : Hid ((z < 1 ∨ 65535 < z) → (65535 : Int) = (n : Int)) := Lib.hid (fun h => by rw [hn]; unfold pn; rw [if_pos h]; rfl)
  have HZ2 : Hid (¬ (z < 1 ∨ 65535 < z) → z = (n : Int)) := Lib.hid (fun h => by rw [hn]; unfold pn; rw [if_neg h]; omega)
  clear hl hn hN hQ hBB
  go_enter Tryd.func12, Tryd.ntmps12
  go_upto_region 1 with fail
  go_cut [12] (fun s12 wx => s12 = .bool BB ∧ wx = w)
  case first =>
    rcases (show z < 1 ∨ (¬ z < 1 ∧ 65535 < z) ∨ (¬ z < 1 ∧ ¬ 65535 < z) by omega) with h | ⟨h, h'⟩ | ⟨h, h'⟩
    · go_wp2_with fail
      go_meet
      exact ⟨by rw [HBB.out, decide_eq_true (.inl h)], rfl⟩
    · go_wp2_with fail
      go_meet
      exact ⟨by rw [HBB.out, decide_eq_true (.inr h')], rfl⟩
    · go_wp2_with fail
      go_meet
      exact ⟨by rw [HBB.out, decide_eq_false (by omega)], rfl⟩
  case rest =>
    obtain ⟨rfl, hwx⟩ := hcut
    rw [hwx]
    clear hwx
    go_upto_if 12 with fail
    go_cut [1] (fun s1 wx => s1 = .int .i64 (n : Int) ∧ wx = w)
    case first =>
      cases BB
      · have hz := HZ2.out (of_decide_eq_false HBB.out.symm)
        go_wp2_with fail
        go_meet
        exact ⟨by rw [hz], rfl⟩
      · have hz := HZ1.out (of_decide_eq_true HBB.out.symm)
        go_wp2_with fail
        go_meet
        exact ⟨by rw [← hz], rfl⟩
    case rest =>
      obtain ⟨rfl, hwx⟩ := hcut
      rw [hwx]
      clear hwx
      clear HZ1 HZ2 HBB
      go_wp2_with fail
      go_loopg [0, 5] (N + 1) (fun gk s0 s5 wr => ∃ (c k m : Nat) (A : Option Addr) (L : List Pc) (S : ByteArray), s0 = .string S ∧ s5 = .slice A k c ∧ S.size = m ∧ m ≤ 1000000 ∧ gk = m + (if k = 0 then 1 else 0) ∧ Hid (k = L.length ∧ k + m ≤ N + 1 ∧ m ≤ N) ∧ Hid (rpcs w.heap.size wr (.slice A k c) L) ∧ Hid (∃ R, partsOf l 0 Q = L.map Pc.sp ++ partsOf l k R ∧ left' n N k m R) ∧ Hid (S.data.toList = l.drop (N - m)) ∧ Hid (Below w.heap.size w wr))
      case atStart => exact ⟨0, 0, N, none, [], s, rfl, rfl, HNS.out.symm, hs, rfl, Lib.hid ⟨rfl, by omega, Nat.le_refl _⟩, Lib.hid ⟨World.ownsRow_nil _ _ _ _, fun p h => by cases h⟩, Lib.hid ⟨Q, rfl, by rw [HQ.out]; exact left_start _ _⟩, Lib.hid (by rw [Nat.sub_self, List.drop_zero, HL.out]), Lib.hid (Below.refl _ _)⟩
      case round =>
        obtain ⟨c, k, m, A, L, S, rfl, rfl, hSm, hm, hgk, HK, HP, HR, HS, HB⟩ := hrel
        have HGK := Lib.hid hgk
        clear hgk
        by_cases hgo : 0 < m ∨ k = 0
        · obtain ⟨R', hR', hlf⟩ : ∃ R', (partsOf l 0 Q = L.map Pc.sp ++ (sp k ((l.drop (N - m)).take (min m n)) :: partsOf l (k + 1) R')) ∧ left' n N (k + 1) (m - min m n) R' := by
            obtain ⟨R, h1, h2⟩ := HR.out
            obtain ⟨R', h3, h4⟩ := left_next h2 hnle.1 hgo
            exact ⟨R', by rw [h1, h3]; rfl, h4⟩
          have HRN := Lib.hid hR'
          have HLF := Lib.hid hlf
          obtain ⟨kk, hkk⟩ : ∃ kk, kk = min m n := ⟨_, rfl⟩
          rw [← hkk] at HRN HLF
          have hk1 : n < m → kk = n := fun h => by rw [hkk, Nat.min_eq_right (Nat.le_of_lt h)]
          have hk2 : ¬ n < m → kk = m := fun h => by rw [hkk, Nat.min_eq_left (by omega)]
          have HK1 := Lib.hid hk1
          have HK2 := Lib.hid hk2
          have hkm : kk ≤ S.size := by rw [hSm, hkk]; exact Nat.min_le_left _ _
          have HKP : Hid (0 < m → 0 < kk) := Lib.hid (fun h => by have := hnle.1; by_cases h2 : n < m; · rw [hk1 h2]; omega
                                                                  · rw [hk2 h2]; exact h)
          have HCL := cut_low hkm
          have HCH := cut_high hkm
          obtain ⟨P, hP⟩ : ∃ P, P = S.extract 0 kk := ⟨_, rfl⟩
          obtain ⟨S', hS'⟩ : ∃ S', S' = S.extract kk S.size := ⟨_, rfl⟩
          rw [← hP] at HCL
          rw [← hS'] at HCH
          have hPl : P.data.toList = (l.drop (N - m)).take kk := by rw [hP, ext_list, List.drop_zero, Nat.sub_zero, HS.out]
          have hlen : S.data.toList.length = m := by rw [← hSm]; exact Array.length_toList
          have hSl : S'.data.toList = l.drop (N - (m - kk)) := by
            rw [hS', ext_list, List.take_of_length_le (by rw [List.length_drop, hlen]; omega), HS.out, List.drop_drop]
            congr 1
            have := HK.out.2.2
            omega
          have hSsz : S'.size = m - kk := by
            have h1 : S'.data.toList.length = m - kk := by rw [hS', ext_list, List.take_of_length_le (by rw [List.length_drop, hlen]; omega), List.length_drop, hlen]
            rw [← h1]; exact Array.length_toList.symm
          have hPsz : P.size ≤ 1000000 := by
            have h1 : P.data.toList.length ≤ m := by rw [hP, ext_list, List.length_take, List.length_drop, hlen]; omega
            have h2 : P.data.toList.length = P.size := Array.length_toList
            omega
          have HPL := Lib.hid hPl
          have HSL := Lib.hid hSl
          have HSZ := Lib.hid hSsz
          have HPZ := Lib.hid hPsz
          have HKM : Hid (kk ≤ m) := Lib.hid (by omega)
          have HOW : Hid (wr.ownsRow w.heap.size 47 5 (.slice A k c) k (Pcs L)) := Lib.hid (by have h := HP.out.o; rw [← HK.out.1] at h; exact h)
          have HK9 : Hid (k + 1 ≤ 1000002) := Lib.hid (by have := HK.out.2.1; omega)
          have hmz : (S.size : Int) = (m : Int) := by omega
          clear hkk hkm hP hS' hPl hlen hSl hSsz hPsz hR' hlf
          rcases (show 0 < m ∨ (¬ 0 < m ∧ k = 0) by omega) with g1 | ⟨g1, g2⟩
          · have g1' : (0 : Int) < (m : Int) := by omega
            have HGO : Hid (0 < m ∨ k = 0) := Lib.hid hgo
            clear hgo g1
            go_upto_if 25 with fail
            go_cut [6] (fun s6 wx => s6 = .int .i64 (kk : Int) ∧ wx = wr)
            case first =>
              by_cases hnm : n < m
              · have hnm' : (n : Int) < (m : Int) := by omega
                have hkk := HK1.out hnm
                clear hnm
                go_wp2_with fail
                go_meet
                exact ⟨by rw [hkk], rfl⟩
              · have hnm' : ¬ (n : Int) < (m : Int) := by omega
                have hkk := HK2.out hnm
                clear hnm
                go_wp2_with fail
                go_meet
                exact ⟨by rw [hkk], rfl⟩
            case rest =>
              obtain ⟨rfl, hwx⟩ := hcut
              rw [hwx]
              clear hwx
              by_cases par : k % 2 = 0
              · have hpar : ((k : Int) % 2 == 0) = true := by simp; omega
                obtain ⟨p, hp⟩ : ∃ p : Pc, p = ⟨0, P, [], none, 0⟩ := ⟨_, rfl⟩
                have HSP : Hid (p.sp = sp k ((l.drop (N - m)).take kk)) := Lib.hid (by rw [hp, ← HPL.out]; unfold sp; rw [if_pos par]; rfl)
                have HCE : Hid (p.cells = [.int .i64 0, .string P, .slice none 0 0, .slice none 0 0, .slice none 0 0]) := Lib.hid (by rw [hp]; rfl)
                have HPM : Hid (pcM w.heap.size wr p) := Lib.hid (by rw [hp]; exact ⟨opo_nil _ _, (fun o h => by cases h), Nat.zero_le _, Nat.zero_le _⟩)
                have HB5 := HB
                have HP5 := HP
                clear hp par
                obtain ⟨w6, hw6⟩ : ∃ w6, w6 = wr.alloc (.cells #[.int .i64 0, .string P, .slice none 0 0, .slice none 0 0, .slice none 0 0] 47) := ⟨_, rfl⟩
                have B6 : Hid (Below wr.heap.size wr w6) := Lib.hid (by rw [hw6]; exact below_alloc _ _)
                have HNC : Hid (∀ (j : Nat) (u : Value), ([.int .i64 0, .string P, .slice none 0 0, .slice none 0 0, .slice none 0 0] : List Value)[j]? = some u → w6.cell? ((⟨wr.heap.size, 0, none⟩ : Addr).add j) = some u) := Lib.hid (by rw [hw6]; exact pt_cells _ _ _ _ _ _ _)
                have BB6 := Lib.hid (grows HB5.out B6.out)
                have HPM6 := Lib.hid (HPM.out.below B6.out)
                have HP6 := Lib.hid (HP5.out.below B6.out)
                have HOW6 : Hid (w6.ownsRow w.heap.size 47 5 (.slice A k c) k (Pcs L)) := Lib.hid (by have h := HP6.out.o; rw [← HK.out.1] at h; exact h)
                go_wp2_with (at_builtin; rw [← hw6]; refine wpList_append_own_at _ rfl _ _ 27 rfl w.heap.size 47 i0 (.agg #[.int .i64 0, .string ⟨#[]⟩, .slice none 0 0, .slice none 0 0, .slice none 0 0]) 5 96 Tryd.underlying27 hi hz0 hz1 hz2 rfl (by decide) _ k (Pcs L) rfl HOW6.out ⟨wr.heap.size, 0, none⟩ 1 1 [.int .i64 0, .string P, .slice none 0 0, .slice none 0 0, .slice none 0 0] rfl rfl HNC.out (pt_one _ _ _ _ _) ?a3 ?a4 ?a5 ?_)
                case a3 => unfold maxLen; have := HK9.out; omega
                case a4 => have := HK9.out; omega
                case a5 => first | exact BB6.out.size | (have h1 := HB5.out.size; omega)
                intro v3 w7 hown hgrow _ _
                have O7 : Hid (Only (fun i => (Value.slice A k c).ownBlock = some i) w6 w7) := Lib.hid (by first | exact (Only.refl _ w6).grown hgrow (fun i hi _ => hi) | (rw [← hw6] at hgrow; exact (Only.refl _ w6).grown hgrow (fun i hi _ => hi)))
                have B7 : Hid (Below w.heap.size w w7) := Lib.hid (O7.out.below BB6.out BB6.out.size (fun i hi => (HOW6.out.lt i hi).1))
                obtain ⟨A7, c7, hv7⟩ : ∃ A7 c7, v3 = .slice A7 (k + 1) c7 := by
                  rcases hown.2 with ⟨rfl, h0⟩ | ⟨g, cap, _, rfl, _⟩
                  · omega
                  · exact ⟨_, cap, rfl⟩
                subst hv7
                obtain ⟨k', hk'⟩ : ∃ k', k' = k + 1 := ⟨_, rfl⟩
                have HK7 : Hid (k' = (L ++ [p]).length ∧ k' + (m - kk) ≤ N + 1 ∧ m - kk ≤ N) := Lib.hid ⟨by rw [hk', List.length_append, HK.out.1]; rfl, by have h1 := HK.out.2.1; have h2 := HGO.out; have h3 := HKP.out; have h4 := HKM.out; rw [hk']; omega, by have := HK.out.2.2; omega⟩
                have PS7 : Hid (rpcs w.heap.size w7 (.slice A7 k' c7) (L ++ [p])) := Lib.hid ⟨by rw [Pcs_snoc, HCE.out, ← HK7.out.1, hk']; exact hown, fun q hq => by
                  have hmm : ∀ q, pcM w.heap.size w6 q → pcM w.heap.size w7 q := fun q h => ⟨h.o.only O7.out (fun i hi e => own_two h.o HOW6.out (by decide) i hi e), h.n, h.l, h.k⟩
                  rcases List.mem_append.1 hq with h | h
                  · exact hmm q (HP6.out.m q h)
                  · obtain rfl : q = p := by simpa using h
                    exact hmm q HPM6.out⟩
                have HR7 : Hid (∃ R, partsOf l 0 Q = (L ++ [p]).map Pc.sp ++ partsOf l k' R ∧ left' n N k' (m - kk) R) := Lib.hid ⟨R', by
                  rw [HRN.out, List.map_append, List.append_assoc, hk']
                  show _ ++ (sp k _ :: partsOf l (k + 1) _) = _
                  rw [← HSP.out]; rfl, by rw [hk']; exact HLF.out⟩
                have HKX : Hid (k' ≠ 0 ∧ k' = k + 1) := Lib.hid ⟨by omega, hk'⟩
                rw [← hk']
                clear hown hgrow hk' hw6
                go_wp2
                go_roundg (m - kk)
                case measure => have h1 := HGK.out; have h2 := HGO.out; have h3 := HKP.out; have h4 := HKM.out; rw [h1]; split <;> omega
                case rel => exact ⟨c7, k', m - kk, A7, L ++ [p], S', rfl, rfl, HSZ.out, by omega, by rw [if_neg HKX.out.1]; omega, HK7, PS7, HR7, HSL, B7⟩
              · have hpar : ((k : Int) % 2 == 0) = false := by simp; omega
                have HOP := Lib.hid (rOps_any (s := P) HPZ.out wr)
                have HPR := Lib.hid par
                clear par
                go_wp2_with fail
                refine HOP.out.mono ?_
                rintro e w2 ⟨A2, n2, c2, rfl, o2, l2, b2⟩
                have hn2 : n2 = (opsM P.data.toList 0).length := by
                  obtain ⟨A', c', e⟩ := o2.form
                  injection e
                obtain ⟨p, hp⟩ : ∃ p : Pc, p = ⟨1, ⟨#[]⟩, opsM P.data.toList 0, A2, c2⟩ := ⟨_, rfl⟩
                have HSP : Hid (p.sp = sp k ((l.drop (N - m)).take kk)) := Lib.hid (by rw [hp, ← HPL.out]; unfold sp; rw [if_neg HPR.out]; rfl)
                have HCE : Hid (p.cells = [.int .i64 1, .string ⟨#[]⟩, .slice A2 n2 c2, .slice none 0 0, .slice none 0 0]) := Lib.hid (by rw [hp, hn2]; rfl)
                have HPM : Hid (pcM w.heap.size w2 p) := Lib.hid (by
                  rw [hp]
                  refine pcM.lower (base := wr.heap.size) ⟨?_, l2, ?_, Nat.le_refl _⟩ HB.out.size
                  · show opo wr.heap.size w2 (.slice A2 (opsM P.data.toList 0).length c2) (opsM P.data.toList 0)
                    rw [← hn2]; exact o2
                  · have h1 := opsM_len P.data.toList
                    have h2 : P.data.toList.length = P.size := Array.length_toList
                    have h3 := HPZ.out
                    show (opsM P.data.toList 0).length ≤ _; omega)
                have HB5 := Lib.hid (grows HB.out b2)
                have HP5 := Lib.hid (HP.out.below b2)
                clear hp hn2 o2 l2 b2 HOP
                obtain ⟨w6, hw6⟩ : ∃ w6, w6 = w2.alloc (.cells #[.int .i64 1, .string ⟨#[]⟩, .slice A2 n2 c2, .slice none 0 0, .slice none 0 0] 47) := ⟨_, rfl⟩
                have B6 : Hid (Below w2.heap.size w2 w6) := Lib.hid (by rw [hw6]; exact below_alloc _ _)
                have HNC : Hid (∀ (j : Nat) (u : Value), ([.int .i64 1, .string ⟨#[]⟩, .slice A2 n2 c2, .slice none 0 0, .slice none 0 0] : List Value)[j]? = some u → w6.cell? ((⟨w2.heap.size, 0, none⟩ : Addr).add j) = some u) := Lib.hid (by rw [hw6]; exact pt_cells _ _ _ _ _ _ _)
                have BB6 := Lib.hid (grows HB5.out B6.out)
                have HPM6 := Lib.hid (HPM.out.below B6.out)
                have HP6 := Lib.hid (HP5.out.below B6.out)
                have HOW6 : Hid (w6.ownsRow w.heap.size 47 5 (.slice A k c) k (Pcs L)) := Lib.hid (by have h := HP6.out.o; rw [← HK.out.1] at h; exact h)
                go_wp2_with (at_builtin; rw [← hw6]; refine wpList_append_own_at _ rfl _ _ 27 rfl w.heap.size 47 i0 (.agg #[.int .i64 0, .string ⟨#[]⟩, .slice none 0 0, .slice none 0 0, .slice none 0 0]) 5 96 Tryd.underlying27 hi hz0 hz1 hz2 rfl (by decide) _ k (Pcs L) rfl HOW6.out ⟨w2.heap.size, 0, none⟩ 1 1 [.int .i64 1, .string ⟨#[]⟩, .slice A2 n2 c2, .slice none 0 0, .slice none 0 0] rfl rfl HNC.out (pt_one _ _ _ _ _) ?a3 ?a4 ?a5 ?_)
                case a3 => unfold maxLen; have := HK9.out; omega
                case a4 => have := HK9.out; omega
                case a5 => first | exact BB6.out.size | (have h1 := HB5.out.size; omega)
                intro v3 w7 hown hgrow _ _
                have O7 : Hid (Only (fun i => (Value.slice A k c).ownBlock = some i) w6 w7) := Lib.hid (by first | exact (Only.refl _ w6).grown hgrow (fun i hi _ => hi) | (rw [← hw6] at hgrow; exact (Only.refl _ w6).grown hgrow (fun i hi _ => hi)))
                have B7 : Hid (Below w.heap.size w w7) := Lib.hid (O7.out.below BB6.out BB6.out.size (fun i hi => (HOW6.out.lt i hi).1))
                obtain ⟨A7, c7, hv7⟩ : ∃ A7 c7, v3 = .slice A7 (k + 1) c7 := by
                  rcases hown.2 with ⟨rfl, h0⟩ | ⟨g, cap, _, rfl, _⟩
                  · omega
                  · exact ⟨_, cap, rfl⟩
                subst hv7
                obtain ⟨k', hk'⟩ : ∃ k', k' = k + 1 := ⟨_, rfl⟩
                have HK7 : Hid (k' = (L ++ [p]).length ∧ k' + (m - kk) ≤ N + 1 ∧ m - kk ≤ N) := Lib.hid ⟨by rw [hk', List.length_append, HK.out.1]; rfl, by have h1 := HK.out.2.1; have h2 := HGO.out; have h3 := HKP.out; have h4 := HKM.out; rw [hk']; omega, by have := HK.out.2.2; omega⟩
                have PS7 : Hid (rpcs w.heap.size w7 (.slice A7 k' c7) (L ++ [p])) := Lib.hid ⟨by rw [Pcs_snoc, HCE.out, ← HK7.out.1, hk']; exact hown, fun q hq => by
                  have hmm : ∀ q, pcM w.heap.size w6 q → pcM w.heap.size w7 q := fun q h => ⟨h.o.only O7.out (fun i hi e => own_two h.o HOW6.out (by decide) i hi e), h.n, h.l, h.k⟩
                  rcases List.mem_append.1 hq with h | h
                  · exact hmm q (HP6.out.m q h)
                  · obtain rfl : q = p := by simpa using h
                    exact hmm q HPM6.out⟩
                have HR7 : Hid (∃ R, partsOf l 0 Q = (L ++ [p]).map Pc.sp ++ partsOf l k' R ∧ left' n N k' (m - kk) R) := Lib.hid ⟨R', by
                  rw [HRN.out, List.map_append, List.append_assoc, hk']
                  show _ ++ (sp k _ :: partsOf l (k + 1) _) = _
                  rw [← HSP.out]; rfl, by rw [hk']; exact HLF.out⟩
                have HKX : Hid (k' ≠ 0 ∧ k' = k + 1) := Lib.hid ⟨by omega, hk'⟩
                rw [← hk']
                clear hown hgrow hk' hw6
                go_wp2
                go_roundg (m - kk)
                case measure => have h1 := HGK.out; have h2 := HGO.out; have h3 := HKP.out; have h4 := HKM.out; rw [h1]; split <;> omega
                case rel => exact ⟨c7, k', m - kk, A7, L ++ [p], S', rfl, rfl, HSZ.out, by omega, by rw [if_neg HKX.out.1]; omega, HK7, PS7, HR7, HSL, B7⟩
          · obtain rfl : m = 0 := by omega
            subst g2
            have hkk0 : kk = 0 := HK2.out (by omega)
            subst hkk0
            have HCL0 : ∀ u, (Instr.slice 9 (.string S) none (some (.int .i64 0)) none).run Tryd.prog u = .ok (.string P) u := HCL
            have HCH0 : ∀ u, (Instr.slice 9 (.string S) (some (.int .i64 0)) none none).run Tryd.prog u = .ok (.string S') u := HCH
            clear hgo g1 HCL HCH
            go_upto_if 25 with fail
            go_cut [6] (fun s6 wx => s6 = .int .i64 0 ∧ wx = wr)
            case first =>
              have hnm' : ¬ (n : Int) < 0 := by omega
              go_wp2_with fail
              go_meet
              exact ⟨rfl, rfl⟩
            case rest =>
              obtain ⟨rfl, hwx⟩ := hcut
              rw [hwx]
              clear hwx
              obtain ⟨p, hp⟩ : ∃ p : Pc, p = ⟨0, P, [], none, 0⟩ := ⟨_, rfl⟩
              have HSP : Hid (p.sp = sp 0 ((l.drop (N - 0)).take 0)) := Lib.hid (by rw [hp, ← HPL.out]; unfold sp; rw [if_pos rfl]; rfl)
              have HCE : Hid (p.cells = [.int .i64 0, .string P, .slice none 0 0, .slice none 0 0, .slice none 0 0]) := Lib.hid (by rw [hp]; rfl)
              have HPM : Hid (pcM w.heap.size wr p) := Lib.hid (by rw [hp]; exact ⟨opo_nil _ _, (fun o h => by cases h), Nat.zero_le _, Nat.zero_le _⟩)
              clear hp
              obtain ⟨w6, hw6⟩ : ∃ w6, w6 = wr.alloc (.cells #[.int .i64 0, .string P, .slice none 0 0, .slice none 0 0, .slice none 0 0] 47) := ⟨_, rfl⟩
              have B6 : Hid (Below wr.heap.size wr w6) := Lib.hid (by rw [hw6]; exact below_alloc _ _)
              have HNC : Hid (∀ (j : Nat) (u : Value), ([.int .i64 0, .string P, .slice none 0 0, .slice none 0 0, .slice none 0 0] : List Value)[j]? = some u → w6.cell? ((⟨wr.heap.size, 0, none⟩ : Addr).add j) = some u) := Lib.hid (by rw [hw6]; exact pt_cells _ _ _ _ _ _ _)
              have BB6 := Lib.hid (grows HB.out B6.out)
              have HPM6 := Lib.hid (HPM.out.below B6.out)
              have HP6 := Lib.hid (HP.out.below B6.out)
              have HOW6 : Hid (w6.ownsRow w.heap.size 47 5 (.slice A 0 c) 0 (Pcs L)) := Lib.hid (by have h := HP6.out.o; rw [← HK.out.1] at h; exact h)
              go_wp2_with (at_builtin; rw [← hw6]; refine wpList_append_own_at _ rfl _ _ 27 rfl w.heap.size 47 i0 (.agg #[.int .i64 0, .string ⟨#[]⟩, .slice none 0 0, .slice none 0 0, .slice none 0 0]) 5 96 Tryd.underlying27 hi hz0 hz1 hz2 rfl (by decide) _ 0 (Pcs L) rfl HOW6.out ⟨wr.heap.size, 0, none⟩ 1 1 [.int .i64 0, .string P, .slice none 0 0, .slice none 0 0, .slice none 0 0] rfl rfl HNC.out (pt_one _ _ _ _ _) ?a3 ?a4 ?a5 ?_)
              case a3 => decide
              case a5 => first | exact BB6.out.size | (have h1 := HB.out.size; omega)
              intro v3 w7 hown hgrow _ _
              have O7 : Hid (Only (fun i => (Value.slice A 0 c).ownBlock = some i) w6 w7) := Lib.hid (by first | exact (Only.refl _ w6).grown hgrow (fun i hi _ => hi) | (rw [← hw6] at hgrow; exact (Only.refl _ w6).grown hgrow (fun i hi _ => hi)))
              have B7 : Hid (Below w.heap.size w w7) := Lib.hid (O7.out.below BB6.out BB6.out.size (fun i hi => (HOW6.out.lt i hi).1))
              obtain ⟨A7, c7, hv7⟩ : ∃ A7 c7, v3 = .slice A7 (0 + 1) c7 := by
                rcases hown.2 with ⟨rfl, h0⟩ | ⟨g, cap, _, rfl, _⟩
                · omega
                · exact ⟨_, cap, rfl⟩
              subst hv7
              have HK7 : Hid (1 = (L ++ [p]).length ∧ 1 + 0 ≤ N + 1 ∧ 0 ≤ N) := Lib.hid ⟨by rw [List.length_append, ← HK.out.1]; rfl, by omega, by omega⟩
              have PS7 : Hid (rpcs w.heap.size w7 (.slice A7 1 c7) (L ++ [p])) := Lib.hid ⟨by rw [Pcs_snoc, HCE.out, ← HK7.out.1]; exact hown, fun q hq => by
                have hmm : ∀ q, pcM w.heap.size w6 q → pcM w.heap.size w7 q := fun q h => ⟨h.o.only O7.out (fun i hi e => own_two h.o HOW6.out (by decide) i hi e), h.n, h.l, h.k⟩
                rcases List.mem_append.1 hq with h | h
                · exact hmm q (HP6.out.m q h)
                · obtain rfl : q = p := by simpa using h
                  exact hmm q HPM6.out⟩
              have HR7 : Hid (∃ R, partsOf l 0 Q = (L ++ [p]).map Pc.sp ++ partsOf l 1 R ∧ left' n N 1 0 R) := Lib.hid ⟨R', by
                rw [HRN.out, List.map_append, List.append_assoc]
                show _ ++ (sp 0 _ :: partsOf l (0 + 1) _) = _
                rw [← HSP.out]; rfl, HLF.out⟩
              clear hown hgrow hw6
              go_wp2
              go_roundg 0
              case measure => have h1 := HGK.out; rw [h1]; decide
              case rel => exact ⟨c7, 1, 0, A7, L ++ [p], S', rfl, rfl, HSZ.out, by omega, rfl, HK7, PS7, HR7, HSL, B7⟩
        · have g1 : ¬ 0 < m := by omega
          have g2 : k ≠ 0 := by omega
          have hkb : ((k : Int) == 0) = false := beq_eq_false_iff_ne.2 (by omega)
          have HE : Hid (L.map Pc.sp = partsOf l 0 Q) := Lib.hid (by
            obtain ⟨R, h1, h2⟩ := HR.out
            rw [h1, left_done h2 g1 g2]
            show _ = _ ++ []
            rw [List.append_nil])
          have hSz : ¬ (0 : Int) < (S.size : Int) := by omega
          clear hgo
          go_wp2
          go_ret
          exact ⟨A, c, L, by rw [HK.out.1]; rfl, HE.out, by have h := HP.out; rw [HK.out.1] at h; exact h, HB.out⟩
end Go.Proofs.YtnkninjdpgpkmaaDoor.Hz
