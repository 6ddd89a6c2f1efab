/-
  The reference's op and Text: their results.
  Conditions: as each theorem says.
-/
import Derived.Test.YtnkninjdpgpkmaaGreatDoorBav
import Derived.Test.YtnkninjdpgpkmaaGreatDoorBaz
import Derived.Deep.DeepCutAuto
import Derived.Deep.LoopGhost
namespace Go.Proofs.YtnkninjdpgpkmaaGreatDoor.Hr
open Go.RowKit Go.Proofs.YtnkninjdpgpkmaaGreatDoor.Vm Go.Proofs.YtnkninjdpgpkmaaGreatDoor.Vo Go.Proofs.YtnkninjdpgpkmaaGreatDoor.Bm Go.Proofs.YtnkninjdpgpkmaaGreatDoor.Bw Go.Proofs.YtnkninjdpgpkmaaGreatDoor.Na Go.Proofs.YtnkninjdpgpkmaaGreatDoor.Ko Go.Proofs.YtnkninjdpgpkmaaGreatDoor.Nm Go.Proofs.YtnkninjdpgpkmaaGreatDoor.Ne Go.Proofs.YtnkninjdpgpkmaaGreatDoor.Km Go.Proofs.YtnkninjdpgpkmaaGreatDoor.Kw Go.Proofs.YtnkninjdpgpkmaaGreatDoor.Ks Go.Proofs.YtnkninjdpgpkmaaGreatDoor.Sm Go.Proofs.YtnkninjdpgpkmaaGreatDoor.Fm Go.Proofs.YtnkninjdpgpkmaaGreatDoor.Gm Go.Proofs.YtnkninjdpgpkmaaGreatDoor.Ga Go.Proofs.YtnkninjdpgpkmaaGreatDoor.Gp Go.Proofs.YtnkninjdpgpkmaaGreatDoor.Gt Go.Proofs.YtnkninjdpgpkmaaGreatDoor.Ke Go.Proofs.YtnkninjdpgpkmaaGreatDoor.Ia

/-- All blocks that are no bytes are as they were. -/
def kept (w w' : World) : Prop := ∀ i t cs, Blk w i t cs → 5 ≠ t → Blk w' i t cs
theorem kept.trans {a b c : World} (h : kept a b) (k : kept b c) : kept a c := fun i t cs x ht => k i t cs (h i t cs x ht) ht
theorem kept_below {a b : World} (h : Below a.heap.size a b) : kept a b := fun _ _ _ x _ => x.below h
theorem kept_more {W w w' : World} {A : Option Addr} {n cap : Nat} {b t : List UInt8} {v' : Value} (h : txt W w A n cap b) (m : more w (.slice A n cap) t v' w') : kept w w' :=
  fun i t cs k ht => k.only m.2.1 (fun e => by obtain ⟨cur, hb⟩ := h.r.blk e; exact Blk.apart hb k ht rfl)
/-- What comes of an op. -/
def addO (W w : World) (b : List UInt8) (o : Opi) (e : Ending) (w' : World) : Prop :=
  (opW b.length o ≠ 0 ∧ (∃ A n cap, e = .returned (.tuple #[.slice A n cap, .int .i64 (opW b.length o)])) ∧ Below W.heap.size W w') ∨ (opW b.length o = 0 ∧ ∃ A n cap, e = .returned (.tuple #[.slice A n cap, .int .i64 0]) ∧ txt W w' A n cap (b ++ opO b o.nat) ∧ kept w w')

section
variable {W w : World} {A : Option Addr} {n cap : Nat} {b : List UInt8}
set_option maxHeartbeats 2000000 in
set_option maxRecDepth 100000 in
theorem rop_any (o : Opi) (h : txt W w A n cap b) (hc : b.length + opC o ≤ 1000000) :
    Calls Tryz.prog 44 #[.slice A n cap, .agg #[.int .u8 (o.x.toNat : Int), .int .i64 o.n, .int .i64 o.d]] w (addO W w b o) := by
  obtain ⟨x, on, od⟩ := o
  dsimp only
  obtain ⟨y, hy⟩ : ∃ y : Int, y = (x.toNat : Int) := ⟨_, rfl⟩
  rw [← hy]
  have HY := Lib.hid hy
  have H := Lib.hid h
  have HN := Lib.hid h.len
  have HC := Lib.hid hc
  have HOL := Lib.hid (fun e => opO_len (b := b) (o := ⟨x, on, od⟩) e)
  obtain ⟨w1, hw1⟩ : ∃ w1, w1 = w.alloc (.cells #[.int .u8 y, .int .i64 on, .int .i64 od] 89) := ⟨_, rfl⟩
  obtain ⟨Z, hZ⟩ : ∃ Z, Z = w.heap.size := ⟨_, rfl⟩
  have B1 : Hid (Below w.heap.size w w1) := Lib.hid (by rw [hw1]; exact below_alloc _ _)
  have K1 : Hid (Blk w1 Z 89 #[.int .u8 y, .int .i64 on, .int .i64 od]) := Lib.hid (by rw [hw1, hZ]; exact Blk.fresh _ _ _)
  have T1 := Lib.hid (h.below B1.out)
  have d0 : w1.cell? ⟨Z, 0, none⟩ = some (.int .u8 y) := K1.out.cell 0
  have d1 : w1.cell? ⟨Z, 1, none⟩ = some (.int .i64 on) := K1.out.cell 1
  have d2 : w1.cell? ⟨Z, 2, none⟩ = some (.int .i64 od) := K1.out.cell 2
  clear hy h hc
  by_cases h0 : on = 0
  · subst h0
    have HW : Hid (opW b.length ⟨x, 0, od⟩ = 0) := Lib.hid (by unfold opW; rw [if_pos rfl])
    have HOO : Hid (opO b (Opi.nat ⟨x, 0, od⟩) = [x]) := Lib.hid (opO_lit rfl)
    obtain ⟨w3, hw3⟩ : ∃ w3, w3 = w1.alloc (.cells #[.int .u8 y] 5) := ⟨_, rfl⟩
    have B3 : Hid (Below w1.heap.size w1 w3) := Lib.hid (by rw [hw3]; exact below_alloc _ _)
    have HAD : Hid (w3.cell? ⟨w1.heap.size, 0, none⟩ = some (B x)) := Lib.hid (by rw [hw3, (Blk.fresh w1 5 #[.int .u8 y]).cell 0]; show some (Value.int IntKind.u8 y) = some (Value.int IntKind.u8 (x.toNat : Int)); rw [HY.out])
    have HLM : Hid (b.length + 1 ≤ 1000000000) := Lib.hid (by have := HC.out; omega)
    have T3 := Lib.hid (T1.out.below B3.out)
    go_enter Tryz.func44, Tryz.ntmps44
    go_upto_region 1 with fail
    rw [← hw1]
    try rw [← hZ]
    clear hw1 hZ
    go_wp2_with (at_builtin; rw [← hw3]; refine wpList_rdy_one rfl _ _ rfl (.slice A n cap) rfl b T3.out.r ⟨w1.heap.size, 0, none⟩ 1 1 x rfl rfl HAD.out HLM.out ?_; intro A6 n6 cap6 w6 h6; have T6 := Lib.hid (T3.out.more (Below.refl _ _) h6.out); have KK := Lib.hid (kept_more T3.out h6.out))
    go_ret2
    exact .inr ⟨HW.out, A6, n6, cap6, rfl, by rw [HOO.out]; exact T6.out, ((kept_below B1.out).trans (kept_below B3.out)).trans KK.out⟩
  · have hn0 : (on == 0) = false := by simp [h0]
    by_cases h1 : on < 3 ∨ 258 < on ∨ od < 1 ∨ 32768 < od
    · have HW : Hid (opW b.length ⟨x, on, od⟩ = 1) := Lib.hid (by unfold opW; rw [if_neg h0, if_pos h1])
      rcases (show on < 3 ∨ (¬ on < 3 ∧ 258 < on) ∨ (¬ on < 3 ∧ ¬ 258 < on ∧ od < 1) ∨ (¬ on < 3 ∧ ¬ 258 < on ∧ ¬ od < 1 ∧ 32768 < od) by omega) with g | ⟨g1, g2⟩ | ⟨g1, g2, g3⟩ | ⟨g1, g2, g3, g4⟩
      all_goals
        clear h1 h0
        go_enter Tryz.func44, Tryz.ntmps44
        go_upto_region 1 with fail
        rw [← hw1]
        try rw [← hZ]
        clear hw1 hZ
        go_wp2
        go_ret2
        exact .inl ⟨by rw [HW.out]; decide, ⟨A, n, cap, by rw [HW.out]; rfl⟩, T1.out.b⟩
    · obtain ⟨g1, g2, g3, g4⟩ : ¬ on < 3 ∧ ¬ 258 < on ∧ ¬ od < 1 ∧ ¬ 32768 < od := by omega
      by_cases h2 : (n : Int) < od
      · have HW : Hid (opW b.length ⟨x, on, od⟩ = 10) := Lib.hid (by unfold opW; rw [if_neg h0, if_neg h1, if_pos (by have := HN.out; dsimp only; omega)])
        clear h1 h0
        go_enter Tryz.func44, Tryz.ntmps44
        go_upto_region 1 with fail
        rw [← hw1]
        try rw [← hZ]
        clear hw1 hZ
        go_wp2
        go_ret2
        exact .inl ⟨by rw [HW.out]; decide, ⟨A, n, cap, by rw [HW.out]; rfl⟩, T1.out.b⟩
      · have HW : Hid (opW b.length ⟨x, on, od⟩ = 0) := Lib.hid (by unfold opW; rw [if_neg h0, if_neg h1, if_neg (by have := HN.out; dsimp only; omega)])
        obtain ⟨nn, hnn⟩ := Int.eq_ofNat_of_zero_le (show 0 ≤ on by omega)
        obtain ⟨dd, hdd⟩ := Int.eq_ofNat_of_zero_le (show 0 ≤ od by omega)
        subst hnn
        subst hdd
        have HD3 : Hid (1 ≤ dd ∧ dd ≤ b.length ∧ nn ≤ 258) := Lib.hid (by have := HN.out; omega)
        have HOO : Hid (b ++ opO b (Opi.nat ⟨x, (nn : Int), (dd : Int)⟩) = Wm.ext b dd nn) := Lib.hid (by
          rw [opO_copy (by show (3 : Int) ≤ (nn : Int); omega), Wm.ext_out]; simp)
        have HBL : Hid (b.length + nn ≤ 1000000) := Lib.hid (by
          have h1 := HC.out
          unfold opC at h1
          dsimp only at h1
          rw [if_pos (by omega), Int.toNat_natCast] at h1
          omega)
        clear h1 h0
        go_enter Tryz.func44, Tryz.ntmps44
        go_upto_region 1 with fail
        rw [← hw1]
        try rw [← hZ]
        clear hw1 hZ
        go_wp2
        clear g1 g2 g3 g4 h2
        have hnn8 : nn ≤ 258 := HD3.out.2.2
        go_loopw [0, 6] (fun s0 s6 wx => ∃ (i : Nat) (A6 : Option Addr) (n6 cap6 : Nat), s0 = .slice A6 n6 cap6 ∧ s6 = .int .i64 (i : Int) ∧ i ≤ nn ∧ Hid (txt W wx A6 n6 cap6 (Wm.ext b dd i)) ∧ Hid (Blk wx Z 89 #[.int .u8 y, .int .i64 (nn : Int), .int .i64 (dd : Int)]) ∧ Hid (kept w wx)) (fun _ s6 _ => nn - (intOf s6).toNat)
        case atStart => exact ⟨0, A, n, cap, rfl, rfl, Nat.zero_le _, T1, K1, Lib.hid (kept_below B1.out)⟩
        case round =>
          obtain ⟨i, A6, n6, cap6, rfl, rfl, hi, T6, K6, KP6⟩ := hrel
          have q1 : wr.cell? ⟨Z, 1, none⟩ = some (.int .i64 (nn : Int)) := K6.out.cell 1
          have q2 : wr.cell? ⟨Z, 2, none⟩ = some (.int .i64 (dd : Int)) := K6.out.cell 2
          by_cases hin : i < nn
          · have hin' : (i : Int) < (nn : Int) := by omega
            obtain ⟨tb, htb⟩ : ∃ tb, tb = Wm.ext b dd i := ⟨_, rfl⟩
            rw [← htb] at T6
            have hn6 := T6.out.len
            have htl : tb.length = b.length + i := by rw [htb, Wm.ext_length]
            have hd3 := HD3.out
            have hbl := HBL.out
            obtain ⟨q, hq⟩ : ∃ q, q = b.length + i - dd := ⟨_, rfl⟩
            have hidx : IntKind.i64.wrap ((n6 : Int) - (dd : Int)) = (q : Int) := by rw [IntKind.wrap_i64]; omega
            have hq0 : (0 : Int) ≤ (q : Int) := by omega
            have hqn : (q : Int) < (n6 : Int) := by omega
            obtain ⟨gb, ob, hA6, hcell⟩ := T6.out.cell (j := q) (by omega)
            obtain ⟨yv, hyv⟩ : ∃ yv, yv = tb.getD q 0 := ⟨_, rfl⟩
            rw [← hyv] at hcell
            have HNX : Hid (Wm.ext b dd (i + 1) = tb ++ [yv]) := Lib.hid (by rw [Wm.ext_out, Wm.out_next, ← List.append_assoc, ← Wm.ext_out, ← htb, hyv, hq])
            obtain ⟨ys, hys⟩ : ∃ ys : Int, ys = (yv.toNat : Int) := ⟨_, rfl⟩
            have hcell' : wr.cell? ⟨gb, ob + q, none⟩ = some (.int .u8 ys) := by rw [hys]; exact hcell
            subst hA6
            obtain ⟨w3, hw3⟩ : ∃ w3, w3 = wr.alloc (.cells #[.int .u8 ys] 5) := ⟨_, rfl⟩
            have B3 : Hid (Below wr.heap.size wr w3) := Lib.hid (by rw [hw3]; exact below_alloc _ _)
            have HAD : Hid (w3.cell? ⟨wr.heap.size, 0, none⟩ = some (B yv)) := Lib.hid (by rw [hw3, (Blk.fresh wr 5 #[.int .u8 ys]).cell 0]; show some (Value.int IntKind.u8 ys) = some (Value.int IntKind.u8 (yv.toNat : Int)); rw [hys])
            have HLM : Hid (tb.length + 1 ≤ 1000000000) := Lib.hid (by omega)
            have T3 := Lib.hid (T6.out.below B3.out)
            have K3 := Lib.hid (K6.out.below B3.out)
            have HIN := Lib.hid hin
            clear htb hn6 htl hd3 hbl hq hcell hyv hys hin
            go_wp2_with (at_builtin; rw [← hw3]; refine wpList_rdy_one rfl _ _ rfl (.slice (some ⟨gb, ob, none⟩) n6 cap6) rfl tb T3.out.r ⟨wr.heap.size, 0, none⟩ 1 1 yv rfl rfl HAD.out HLM.out ?_; intro A7 n7 cap7 w7 h7; have T7 := Lib.hid (T3.out.more (Below.refl _ _) h7.out); have K7 : Hid (Blk w7 Z 89 #[.int .u8 y, .int .i64 (nn : Int), .int .i64 (dd : Int)]) := Lib.hid (K3.out.only h7.out.2.1 (fun e => by obtain ⟨cur, hb⟩ := T3.out.r.blk e; exact Blk.apart hb K3.out (by decide) rfl)); have KK := Lib.hid (kept_more T3.out h7.out))
            go_roundw
            case rel => exact ⟨i + 1, A7, n7, cap7, rfl, by go_num, by have := HIN.out; omega, Lib.hid (by rw [HNX.out]; exact T7.out), K7, Lib.hid ((KP6.out.trans (kept_below B3.out)).trans KK.out)⟩
            case measure => have := HIN.out; simp [intOf]; omega
          · have hin' : ¬ (i : Int) < (nn : Int) := by omega
            obtain rfl : i = nn := by omega
            clear hin
            go_wp2
            go_ret2
            exact .inr ⟨HW.out, A6, n6, cap6, rfl, by rw [HOO.out]; exact T6.out, KP6.out⟩
end
theorem sizeRp : (Tryz.prog.info? 96).map (·.size) = some 5 := by kernel_rfl
theorem one5r (k : Int) (t : ByteArray) (A1 : Option Addr) (n1 c1 : Nat) (A2 : Option Addr) (n2 c2 : Nat) (A3 : Option Addr) (n3 c3 : Nat) : (#[.int .i64 k, .string t, .slice A1 n1 c1, .slice A2 n2 c2, .slice A3 n3 c3] : Array Value).all (·.oneCell') = true := by simp [Value.oneCell']

set_option maxHeartbeats 4000000 in
set_option maxRecDepth 100000 in
theorem rText_any {w : World} {A : Option Addr} {c : Nat} {l : List Pz} (h : ptr w A l) (hc : ptsC l ≤ 1000000) (hl : l.length ≤ 1000000) (ho : ∀ p ∈ l, p.os.length ≤ 1000000) :
    Calls Tryz.prog 23 #[.slice A l.length c] w fun e w' => e = .returned (.tuple #[.string ⟨(textM l).2.toArray⟩, .int .i64 (textM l).1]) ∧ Below w.heap.size w w' := by
  obtain ⟨N, hN⟩ : ∃ N, N = l.length := ⟨_, rfl⟩
  rw [← hN]
  rw [← hN] at hl
  have HN := Lib.hid hN
  have H := Lib.hid h
  have HC := Lib.hid hc
  have HO := Lib.hid ho
  obtain ⟨R, hR⟩ : ∃ R, R = textM l := ⟨_, rfl⟩
  rw [← hR]
  clear h hc ho
  by_cases h0 : N = 0
  · have e : l = [] := List.eq_nil_of_length_eq_zero (by omega)
    rw [e, textM_nil] at hR
    subst hR
    subst h0
    clear e hN
    go_enter Tryz.func23, Tryz.ntmps23
    go_wp2
    go_ret2
    exact ⟨rfl, Below.refl _ _⟩
  · have hN0 : ((N : Int) == 0) = false := by simp; omega
    have HR : Hid (R = if (ptsT [] l).1 = 0 then ptsT [] l else ((ptsT [] l).1, [])) := Lib.hid (by rw [hR, textM_cons (list_ne (by omega))])
    obtain ⟨Q, hQ⟩ : ∃ Q, Q = ptsT [] l := ⟨_, rfl⟩
    rw [← hQ] at HR
    have HQ := Lib.hid hQ
    clear h0 hN hR hQ
    go_enter Tryz.func23, Tryz.ntmps23
    go_wp2
    go_loopw [4, 5] (fun s4 s5 wr => ∃ (j : Nat) (A' : Option Addr) (n' cap' : Nat) (b' : List UInt8), s4 = .slice A' n' cap' ∧ s5 = .int .i64 (j : Int) ∧ j ≤ N ∧ Hid (txt w wr A' n' cap' b') ∧ Hid (Q = ptsT b' (l.drop j)) ∧ Hid (b'.length + ptsC (l.drop j) ≤ 1000000)) (fun _ s5 _ => N - (intOf s5).toNat)
    case atStart => exact ⟨0, none, 0, 0, [], rfl, rfl, Nat.zero_le _, Lib.hid (txt_nil w), Lib.hid (by rw [HQ.out, List.drop_zero]), Lib.hid (by rw [List.drop_zero]; have := HC.out; simpa using this)⟩
    case round =>
      obtain ⟨j, A', n', cap', b', rfl, rfl, hj, HT, HRR, HCC⟩ := hrel
      by_cases hjn : j < N
      · have hjn' : (j : Int) < (N : Int) := by omega
        have hj0 : (0 : Int) ≤ (j : Int) := by omega
        obtain ⟨p, hpj⟩ : ∃ p, l[j]? = some p := ⟨_, List.getElem?_eq_getElem (by rw [← HN.out]; exact hjn)⟩
        have hdr := drop_cons hpj
        have hpo := HO.out p (List.mem_of_getElem? hpj)
        obtain ⟨bb, off, hA, hbb, hp⟩ := H.out j p hpj
        subst hA
        have hp' := hp.below hbb HT.out.b
        obtain ⟨Ao, co, eo, ro⟩ := hp'.os
        obtain ⟨A1, q1, e1, r1, m1⟩ := hp'.l1
        obtain ⟨A2, q2, e2, r2, m2⟩ := hp'.l2
        have g0 := hp'.c0
        have g1 := hp'.c1
        have HRS : Hid (Q = if (ptT b' p).1 = 0 then ptsT (ptT b' p).2 (l.drop (j + 1)) else ptT b' p) := Lib.hid (by rw [HRR.out, hdr]; rfl)
        have HCS : Hid (b'.length + ptC p + ptsC (l.drop (j + 1)) ≤ 1000000) := Lib.hid (by have h1 := HCC.out; rw [hdr] at h1; simp only [ptsC] at h1; omega)
        have HLE := Lib.hid (ptT_len b' p)
        have roW : opr w Ao p.os := by
          obtain ⟨Aw, cw, ew, rw'⟩ := hp.os
          have h1 := (HT.out.b.cell (p := ⟨bb, off + j * 5 + 2, none⟩) hbb).trans ew
          rw [h1] at eo
          injection eo with eo
          injection eo with eo _ _
          subst eo
          exact rw'
        have HOW := Lib.hid roW
        have HJN := Lib.hid hjn
        clear hp hp' ro r1 m1 r2 m2 hdr hpj hbb HRR HCC hjn roW
        obtain ⟨pk, pt, pos, pn1, pf1, pn2, pf2⟩ := p
        dsimp only at g0 g1 eo e1 e2 hpo HOW
        obtain ⟨No, hNo⟩ : ∃ No, No = pos.length := ⟨_, rfl⟩
        rw [← hNo] at eo hpo
        have HNO := Lib.hid hNo
        clear hNo
        obtain ⟨Z, hZ⟩ : ∃ Z, Z = wr.heap.size := ⟨_, rfl⟩
        obtain ⟨w2, hw2⟩ : ∃ w2, w2 = wr.alloc (.cells #[.int .i64 pk, .string pt, .slice Ao No co, .slice A1 pn1 q1, .slice A2 pn2 q2] 96) := ⟨_, rfl⟩
        have B2 : Hid (Below wr.heap.size wr w2) := Lib.hid (by rw [hw2]; exact below_alloc _ _)
        have K2 : Hid (Blk w2 Z 96 #[.int .i64 pk, .string pt, .slice Ao No co, .slice A1 pn1 q1, .slice A2 pn2 q2]) := Lib.hid (by rw [hw2, hZ]; exact Blk.fresh _ _ _)
        have T2 := Lib.hid (HT.out.below B2.out)
        have d0 : w2.cell? ⟨Z, 0, none⟩ = some (.int .i64 pk) := K2.out.cell 0
        have d1 : w2.cell? ⟨Z, 1, none⟩ = some (.string pt) := K2.out.cell 1
        have d2 : w2.cell? ⟨Z, 2, none⟩ = some (.slice Ao No co) := K2.out.cell 2
        obtain ⟨r, hr⟩ : ∃ r, r = ptT b' ⟨pk, pt, pos, pn1, pf1, pn2, pf2⟩ := ⟨_, rfl⟩
        rw [← hr] at HRS HLE
        have HRD : Hid (r = if pk < 0 ∨ 2 < pk ∨ (pk = 0 ∧ 65535 < pt.size) then (1, b') else if pk = 0 then (0, b' ++ pt.data.toList) else opsT b' pos) := Lib.hid (by rw [hr]; rfl)
        have HCT : Hid (b'.length + (pt.size + opsC pos) + ptsC (l.drop (j + 1)) ≤ 1000000) := Lib.hid (by have h1 := HCS.out; unfold ptC at h1; exact h1)
        clear hr
        go_upto_region 8 with fail
        try rw [← hZ]
        rw [← hw2]
        clear hw2 hZ g0 g1 eo e1 e2
        by_cases hbad : pk < 0 ∨ 2 < pk ∨ (pk = 0 ∧ 65535 < pt.size)
        · have HE : Hid (R = (1, [])) := Lib.hid (by
            have h1 : r = (1, b') := by rw [HRD.out, if_pos hbad]
            rw [HR.out, HRS.out, h1]; rfl)
          rcases (show pk < 0 ∨ (¬ pk < 0 ∧ 2 < pk) ∨ (pk = 0 ∧ 65535 < pt.size) by omega) with c1 | ⟨c1, c2⟩ | ⟨c1, c2⟩
          · clear hbad
            go_wp2
            go_ret2
            exact ⟨by rw [HE.out]; rfl, grows HT.out.b B2.out⟩
          · clear hbad
            go_wp2
            go_ret2
            exact ⟨by rw [HE.out]; rfl, grows HT.out.b B2.out⟩
          · subst c1
            have c2' : (65535 : Int) < (pt.size : Int) := by omega
            clear hbad
            go_wp2
            go_ret2
            exact ⟨by rw [HE.out]; rfl, grows HT.out.b B2.out⟩
        · by_cases hk0 : pk = 0
          · have c2' : ¬ (65535 : Int) < (pt.size : Int) := by omega
            have HRK : Hid (r = (0, b' ++ pt.data.toList)) := Lib.hid (by rw [HRD.out, if_neg hbad, if_pos hk0])
            subst hk0
            have HLM : Hid (b'.length + pt.size ≤ 1000000000) := Lib.hid (by have := HCT.out; omega)
            clear hbad
            go_wp2_with (at_builtin; refine wpList_rdy_str rfl _ _ rfl (.slice A' n' cap') rfl b' T2.out.r pt rfl HLM.out ?_; intro A6 n6 cap6 w6 h6; have T6 := Lib.hid (T2.out.more (Below.refl _ _) h6.out); have K6 : Hid (Blk w6 Z 96 #[.int .i64 0, .string pt, .slice Ao No co, .slice A1 pn1 q1, .slice A2 pn2 q2]) := Lib.hid (K2.out.only h6.out.2.1 (fun e => by obtain ⟨cur, hb⟩ := T2.out.r.blk e; exact Blk.apart hb K2.out (by decide) rfl)); clear d0 d1 d2)
            have e0 : w6.cell? ⟨Z, 0, none⟩ = some (.int .i64 0) := K6.out.cell 0
            have e2 : w6.cell? ⟨Z, 2, none⟩ = some (.slice Ao No co) := K6.out.cell 2
            have hn6 := T6.out.len
            have hbs : ¬ (16777216 : Int) < (n6 : Int) := by rw [hn6, List.length_append]; have h1 := HCT.out; have h2 : pt.data.toList.length = pt.size := Array.length_toList; omega
            clear hn6
            go_loopw [4, 7] (fun s4 s7 wx => s4 = .slice A6 n6 cap6 ∧ s7 = .int .i64 0 ∧ wx = w6) (fun _ _ _ => 0)
            case atStart => exact ⟨rfl, rfl, rfl⟩
            case round =>
              obtain ⟨rfl, rfl, rfl⟩ := hrel
              by_cases hNo : 0 < No
              · have hNo' : (0 : Int) < (No : Int) := by omega
                go_wp2
                go_roundw
                case rel => exact ⟨j + 1, A6, n6, cap6, _, rfl, by go_num, by have := HJN.out; omega, T6, Lib.hid (by rw [HRS.out, HRK.out, if_pos rfl]), Lib.hid (by have h1 := HCT.out; have h2 : pt.data.toList.length = pt.size := Array.length_toList; rw [List.length_append]; omega)⟩
                case measure => have := HJN.out; simp [intOf]; omega
              · have hNo' : ¬ (0 : Int) < (No : Int) := by omega
                go_wp2
                go_roundw
                case rel => exact ⟨j + 1, A6, n6, cap6, _, rfl, by go_num, by have := HJN.out; omega, T6, Lib.hid (by rw [HRS.out, HRK.out, if_pos rfl]), Lib.hid (by have h1 := HCT.out; have h2 : pt.data.toList.length = pt.size := Array.length_toList; rw [List.length_append]; omega)⟩
                case measure => have := HJN.out; simp [intOf]; omega
          · have c0 : ¬ pk < 0 := by omega
            have c1 : ¬ 2 < pk := by omega
            have c2 : (pk == 0) = false := by simp [hk0]
            have c3 : 0 < pk := by omega
            have HRK : Hid (r = opsT b' pos) := Lib.hid (by rw [HRD.out, if_neg hbad, if_neg hk0])
            have hcS : b'.length + opsC pos ≤ 1000000 := by have := HCT.out; omega
            clear hbad hk0
            go_wp2
            clear c0 c1 c2 d0 d1 d2
            go_loopw [4, 7] (fun s4 s7 wx => ∃ (q : Nat) (A6 : Option Addr) (n6 cap6 : Nat) (b6 : List UInt8), s4 = .slice A6 n6 cap6 ∧ s7 = .int .i64 (q : Int) ∧ q ≤ No ∧ Hid (txt w wx A6 n6 cap6 b6) ∧ Hid (Blk wx Z 96 #[.int .i64 pk, .string pt, .slice Ao No co, .slice A1 pn1 q1, .slice A2 pn2 q2]) ∧ Hid (r = opsT b6 (pos.drop q)) ∧ Hid (b6.length + opsC (pos.drop q) ≤ 1000000)) (fun _ s7 _ => No - (intOf s7).toNat)
            case atStart => exact ⟨0, A', n', cap', b', rfl, rfl, Nat.zero_le _, T2, K2, Lib.hid (by rw [HRK.out, List.drop_zero]), Lib.hid (by rw [List.drop_zero]; exact hcS)⟩
            case round =>
              obtain ⟨q, A6, n6, cap6, b6, rfl, rfl, hq, T6, K6, HR6, HC6⟩ := hrel
              have e0 : wr.cell? ⟨Z, 0, none⟩ = some (.int .i64 pk) := K6.out.cell 0
              have e2 : wr.cell? ⟨Z, 2, none⟩ = some (.slice Ao No co) := K6.out.cell 2
              by_cases hqn : q < No
              · have hqn' : (q : Int) < (No : Int) := by omega
                have hq0 : (0 : Int) ≤ (q : Int) := by omega
                obtain ⟨o, hoj⟩ : ∃ o, pos[q]? = some o := ⟨_, List.getElem?_eq_getElem (by rw [← HNO.out]; exact hqn)⟩
                have hdr := drop_cons hoj
                obtain ⟨i1, i2, b2, off2, hA2, hb2, y0, y1, y2⟩ := HOW.out q o hoj
                subst hA2
                have hk : ∀ i, wr.cell? ⟨b2, i, none⟩ = w.cell? ⟨b2, i, none⟩ := fun i => T6.out.b.cell (p := ⟨b2, i, none⟩) hb2
                have y0' := (hk _).trans y0
                have y1' := (hk _).trans y1
                have y2' := (hk _).trans y2
                have HRX : Hid (r = if opW b6.length o = 0 then opsT (b6 ++ opO b6 o.nat) (pos.drop (q + 1)) else (opW b6.length o, b6)) := Lib.hid (by rw [HR6.out, hdr, opsT_cons])
                have HCX : Hid (b6.length + opC o + opsC (pos.drop (q + 1)) ≤ 1000000) := Lib.hid (by have h1 := HC6.out; rw [hdr] at h1; simp only [opsC] at h1; omega)
                have HOP := Lib.hid (rop_any o T6.out (by have := HCX.out; omega))
                have HOL := Lib.hid (fun e => opO_len (b := b6) (o := o) e)
                have HQN := Lib.hid hqn
                clear hk y0 y1 y2 hoj hdr hb2 i1 i2 HR6 HC6 hqn
                obtain ⟨x, on, od⟩ := o
                dsimp only at y0' y1' y2' HOP
                obtain ⟨yx, hyx⟩ : ∃ yx : Int, yx = (x.toNat : Int) := ⟨_, rfl⟩
                rw [← hyx] at y0' HOP
                clear hyx
                go_wp2_with fail
                refine HOP.out.mono ?_
                clear y0' y1' y2' e0 e2
                intro e w7 ha
                rcases ha with ⟨h1, ⟨A7, n7, cap7, rfl⟩, h3⟩ | ⟨h1, A7, n7, cap7, rfl, h3, hkp⟩
                · obtain ⟨g, hg⟩ : ∃ g, g = opW b6.length ⟨x, on, od⟩ := ⟨_, rfl⟩
                  rw [← hg] at h1 ⊢
                  have hgb : (g != 0) = true := by simp [h1]
                  have HE : Hid (R = (g, [])) := Lib.hid (by
                    have h5 : r = (g, b6) := by rw [HRX.out, if_neg (by rw [← hg]; exact h1), hg]
                    rw [HR.out, HRS.out, h5, if_neg h1, if_neg h1])
                  have H3 := Lib.hid h3
                  clear h1 h3 hg
                  go_wp2
                  go_ret2
                  exact ⟨by rw [HE.out]; rfl, H3.out⟩
                · have HRN : Hid (r = opsT (b6 ++ opO b6 (Opi.nat ⟨x, on, od⟩)) (pos.drop (q + 1))) := Lib.hid (by rw [HRX.out, if_pos h1])
                  have hol := HOL.out h1
                  have hn7 := h3.len
                  have hcx := HCX.out
                  have hbs : ¬ (16777216 : Int) < (n7 : Int) := by rw [hn7, List.length_append]; omega
                  have HB7 : Hid ((b6 ++ opO b6 (Opi.nat ⟨x, on, od⟩)).length + opsC (pos.drop (q + 1)) ≤ 1000000) := Lib.hid (by rw [List.length_append]; omega)
                  have K7 : Hid (Blk w7 Z 96 #[.int .i64 pk, .string pt, .slice (some ⟨b2, off2, none⟩) No co, .slice A1 pn1 q1, .slice A2 pn2 q2]) := Lib.hid (hkp _ _ _ K6.out (by decide))
                  have T7 := Lib.hid h3
                  clear h1 h3 hol hn7 hcx hkp
                  go_wp2
                  go_roundw
                  case rel => exact ⟨q + 1, A7, n7, cap7, _, rfl, by go_num, by have := HQN.out; omega, T7, K7, HRN, HB7⟩
                  case measure => have := HQN.out; simp [intOf]; omega
              · have hqn' : ¬ (q : Int) < (No : Int) := by omega
                have hn6 := T6.out.len
                have hc6 := HC6.out
                have hbs : ¬ (16777216 : Int) < (n6 : Int) := by rw [hn6]; omega
                have HRZ : Hid (r = (0, b6)) := Lib.hid (by rw [HR6.out, List.drop_eq_nil_of_le (by rw [← HNO.out]; omega)]; rfl)
                clear hqn hn6 hc6
                go_wp2
                go_roundw
                case rel => exact ⟨j + 1, A6, n6, cap6, _, rfl, by go_num, by have := HJN.out; omega, T6, Lib.hid (by rw [HRS.out, HRZ.out, if_pos rfl]), Lib.hid (by have h1 := HCT.out; have h2 := HLE.out; rw [HRZ.out] at h2; unfold ptC at h2; dsimp only at h2; omega)⟩
                case measure => have := HJN.out; simp [intOf]; omega
      · have hjn' : ¬ (j : Int) < (N : Int) := by omega
        have HE : Hid (R = (0, b')) := Lib.hid (by rw [HR.out, HRR.out, List.drop_eq_nil_of_le (by rw [← HN.out]; omega)]; rfl)
        have hcv := rdy_take (cp := cap') HT.out.r (x := n') (by rw [← HT.out.len]; exact Nat.le_refl _)
        rw [List.take_of_length_le (by rw [← HT.out.len]; exact Nat.le_refl _)] at hcv
        clear hjn
        go_wp2
        go_ret2
        exact ⟨by rw [HE.out]; rfl, HT.out.b⟩
end Go.Proofs.YtnkninjdpgpkmaaGreatDoor.Hr
