/-
  InflateSteps: however the steps are, the bytes are one text: that which is made at once.
  Conditions: none.
  The walk of the call.
-/
import Derived.Test.YtkcnjhkbcjnbkaaDoorQIwpreset
import Derived.Test.YtkcnjhkbcjnbkaaDoorQbj
import Derived.Test.YtkcnjhkbcjnbkaaDoorQac
namespace Go.Proofs.YtkcnjhkbcjnbkaaDoor.inflateSteps
open Go.RowKit
open Go.Proofs.YtkcnjhkbcjnbkaaDoor.Bw Go.Proofs.YtkcnjhkbcjnbkaaDoor.Lw Go.Proofs.YtkcnjhkbcjnbkaaDoor.Ky Go.Proofs.YtkcnjhkbcjnbkaaDoor.Fm Go.Proofs.YtkcnjhkbcjnbkaaDoor.Fa Go.Proofs.YtkcnjhkbcjnbkaaDoor.Ib Go.Proofs.YtkcnjhkbcjnbkaaDoor.Ic Go.Proofs.YtkcnjhkbcjnbkaaDoor.Ih Go.Proofs.YtkcnjhkbcjnbkaaDoor.Ik Go.Proofs.YtkcnjhkbcjnbkaaDoor.Il Go.Proofs.YtkcnjhkbcjnbkaaDoor.In Go.Proofs.YtkcnjhkbcjnbkaaDoor.Iq Go.Proofs.YtkcnjhkbcjnbkaaDoor.Is Go.Proofs.YtkcnjhkbcjnbkaaDoor.Iy Go.Proofs.YtkcnjhkbcjnbkaaDoor.inflatePreset

theorem ba_ext {a b : ByteArray} (h : a.data.toList = b.data.toList) : a = b := by
  cases a with | mk a => cases b with | mk b => exact congrArg ByteArray.mk (Array.toList_inj.1 h)
theorem take_min (q : Nat) (l : List UInt8) : l.take q = l.take (min q l.length) := by
  rcases Nat.le_total q l.length with h | h
  · rw [Nat.min_eq_left h]
  · rw [Nat.min_eq_right h, List.take_of_length_le h, List.take_of_length_le (Nat.le_refl _)]
/-- A machine on its way, in a world where all of its blocks are new since w. -/
structure way (w wr : World) (m : Nat) (t : ByteArray) (p : List UInt8) (k : Nat) (o : Ob) (s : Im.St) : Prop where
  u : up 0 wr m t p o k s
  l : ∀ i, own m o i → w.heap.size ≤ i
  b : Below w.heap.size w wr
theorem way.low {w wr : World} {m : Nat} {t : ByteArray} {p : List UInt8} {k : Nat} {o : Ob} {s : Im.St} (h : way w wr m t p k o s) (hO : ordM w) : Ih.low m o := fun i hi => by
  have h1 := h.l i hi
  have h2 := hO.1
  omega
theorem way.did {w wr w2 : World} {m : Nat} {t : ByteArray} {p : List UInt8} {k k2 : Nat} {o o2 : Ob} {s s2 : Im.St} (h : way w wr m t p k o s) (u2 : up 0 w2 m t p o2 k2 s2) (d : did wr m o w2 o2) : way w w2 m t p k2 o2 s2 :=
  ⟨u2, fun i hi => (d.nw i hi).elim (h.l i) (fun e => Nat.le_trans h.b.size e), d.on.below h.b h.b.size h.l⟩
theorem way.below {w wr w2 : World} {m : Nat} {t : ByteArray} {p : List UInt8} {k : Nat} {o : Ob} {s : Im.St} (h : way w wr m t p k o s) (b : Below wr.heap.size wr w2) : way w w2 m t p k o s :=
  ⟨h.u.below b, h.l, grows h.b b⟩
theorem text_len (t : ByteArray) (p : List UInt8) (h : t.size ≤ 600) : (tot t 0 p).2.2.2.length ≤ 9000000 := by
  have h1 := (all_facts (N := Bm.num t.data.toList) (M := 8 * t.size) (8 * t.size - 0) 0 p 0 (Nat.le_refl _) (Nat.zero_le _)).1
  unfold tot
  omega
theorem starts_len (t : ByteArray) (p : List UInt8) (h : t.size ≤ 600) : (tot t 0 p).2.1.length ≤ 10000 := by
  have h1 := Ih.all_count (N := Bm.num t.data.toList) (M := 8 * t.size) (8 * t.size - 0) 0 p 0 (Nat.le_refl _) (Nat.zero_le _)
  unfold tot
  omega

set_option maxHeartbeats 1000000 in
set_option maxRecDepth 100000 in
theorem walk (s : ByteArray) (A : Option Addr) (n cap : Nat) (f : Nat → Nat) (w : World) (_ws : s.size ≤ maxLen) (_l : n ≤ 9223372036854775807) (hrow : row8 w A n f) (hO : ordM w) :
    Calls Tryd.prog 3 #[.string s, .slice A n cap] w fun e w' => e = .returned (.bool true) ∧ Below w.heap.size w w' := by
  have HS := Lib.hid (fun u => small_any s ⟨#[]⟩ u)
  have HK := Lib.hid (fun u (h : ordM u) => known_any u h)
  have HO := Lib.hid hO
  have HROW := Lib.hid hrow
  clear _ws hO hrow
  by_cases h1 : s.size ≤ 600
  · rw [decide_eq_true (show s.size ≤ 600 ∧ (⟨#[]⟩ : ByteArray).size ≤ 40000 from ⟨h1, by decide⟩)] at HS
    have HA := Lib.hid (fun u (hu : ordM u) => all_any s 0 ⟨#[]⟩ u hu h1 (Nat.zero_le _) (by decide))
    have HNW := Lib.hid (fun u (hu : ordM u) => New_yes s 0 ⟨#[]⟩ u hu h1 (Nat.zero_le _) (by decide))
    have H1 := Lib.hid h1
    obtain ⟨p, hpe⟩ : ∃ p, p = Wm.lastN 32768 (⟨#[]⟩ : ByteArray).data.toList := ⟨_, rfl⟩
    have HPE := Lib.hid hpe
    rw [← hpe] at HNW
    clear h1 hpe
    go_enter Tryd.func3, Tryd.ntmps3
    go_wp2_with fail
    refine (HS.out _).mono ?_
    rintro e w' ⟨rfl, rfl⟩
    go_wp2_with fail
    refine (HA.out _ HO.out).mono ?_
    intro e w1 ha1
    obtain ⟨b1, hc1⟩ := alls_of ha1 HPE.out.symm
    have B1 := Lib.hid b1
    obtain ⟨R, hR⟩ : ∃ R, R = tot s 0 p := ⟨_, rfl⟩
    have HR := Lib.hid hR
    rw [← hR] at hc1
    clear ha1 b1 hR
    obtain ⟨E, L, En, T⟩ := R
    dsimp only at hc1
    have HTL : Hid (T.length ≤ 9000000) := Lib.hid (by have h := text_len s p H1.out; rw [← HR.out] at h; exact h)
    -- what All answered, in one form for both ways
    obtain ⟨X, Av, nv, cv, Z, he, HX⟩ : ∃ (X : ByteArray) (Av : Option Addr) (nv cv : Nat) (Z : Int), e = .returned (.tuple #[.string X, .slice Av nv cv, .int .i64 Z, .int .i64 E]) ∧ Hid (E = 0 → X.data.toList = T ∧ Z = (En : Int) ∧ ∃ b0, strt b0 w1 (.slice Av nv cv) L) := by
      rcases hc1 with ⟨hne1, rfl⟩ | ⟨he1, A1, n1, c1, rfl, hs1⟩
      · exact ⟨_, none, 0, 0, 0, rfl, Lib.hid (fun h => absurd h hne1)⟩
      · subst he1
        exact ⟨_, A1, n1, c1, _, rfl, Lib.hid (fun _ => ⟨rfl, rfl, _, hs1⟩)⟩
    subst he
    clear hc1
    go_wp2_with fail
    refine (HNW.out _ (HO.out.below B1.out)).mono ?_
    rintro e w2 ⟨m, o, st, rfl, hu, hlo, hb⟩
    have HO1 := Lib.hid (HO.out.below B1.out)
    have HW2 : Hid (way w1 w2 m s p 0 o st) := Lib.hid ⟨hu, hlo, hb⟩
    clear hu hlo hb HNW
    go_wp2
    obtain ⟨Z0, hZ0⟩ : ∃ Z0 : ByteArray, Z0 = ⟨#[]⟩ := ⟨_, rfl⟩
    rw [← hZ0]
    have HZ0 := Lib.hid hZ0
    clear hZ0
    go_loopw [11, 12] (fun s11 s12 wr => ∃ (j k : Nat) (G : ByteArray) (o' : Ob) (st' : Im.St), s12 = .int .i64 (j : Int) ∧ s11 = .string G ∧ j ≤ n ∧ Hid (G.data.toList = T.take k ∧ k ≤ T.length) ∧ Hid (way w1 wr m s p k o' st')) (fun _ s12 _ => n - (intOf s12).toNat)
    case atStart => exact ⟨0, 0, Z0, o, st, rfl, rfl, Nat.zero_le _, Lib.hid ⟨by rw [HZ0.out, List.take_zero], Nat.zero_le _⟩, HW2⟩
    case round =>
      obtain ⟨j, k, G, o', st', rfl, rfl, hj, HG, HW⟩ := hrel
      have HGS : Hid (G.size ≤ 9000000) := Lib.hid (by
        have h1 := HTL.out
        show G.data.size ≤ 9000000
        rw [← Array.length_toList, HG.out.1, List.length_take]; omega)
      by_cases hjn : j < n ∧ j < 60
      · have hjn' : (j : Int) < (n : Int) := by omega
        have hj60 : (j : Int) < 60 := by omega
        have hj0 : (0 : Int) ≤ (j : Int) := by omega
        obtain ⟨bb, off, hA, hbb, hcell, hle⟩ := (HROW.out.below (grows B1.out HW.out.b)) j hjn.1
        subst hA
        obtain ⟨y, hy⟩ : ∃ y, y = f j := ⟨_, rfl⟩
        rw [← hy] at hcell hle
        have hyi : (y : Int) ≤ 255 := by omega
        obtain ⟨q, hq⟩ : ∃ q, q = 1 + y := ⟨_, rfl⟩
        have hsum : IntKind.i64.wrap (1 + (y : Int)) = (q : Int) := by rw [IntKind.wrap_i64]; omega
        have HST := Step_any HW.out.u (HO1.out.below (grows (Below.refl _ _) HW.out.b)) (HW.out.low HO1.out) H1.out (Nat.zero_le _) (n := q) (by omega) (by omega)
        unfold steps next at HST
        rw [← HR.out] at HST
        dsimp only at HST
        obtain ⟨gg, hgg⟩ : ∃ gg : Int, gg = if k < T.length then 0 else E := ⟨_, rfl⟩
        rw [← hgg] at HST
        obtain ⟨S2, hS2⟩ : ∃ S2 : ByteArray, S2 = ⟨((T.drop k).take q).toArray⟩ := ⟨_, rfl⟩
        rw [← hS2] at HST
        have HST := Lib.hid HST
        have HS2 : Hid (S2.data.toList = (T.drop k).take q) := Lib.hid (by rw [hS2])
        have hcat : ¬ (9223372036854775807 < G.size + S2.size) := by
          have h1 := HTL.out
          have h2 := HGS.out
          have h3 : S2.size ≤ 9000000 := by
            show S2.data.size ≤ 9000000
            rw [← Array.length_toList, HS2.out, List.length_take, List.length_drop]; omega
          omega
        have hg2 : gg = 0 ∨ (gg ≠ 0 ∧ gg = E) := by
          by_cases h : k < T.length
          · rw [if_pos h] at hgg; exact .inl hgg
          · rw [if_neg h] at hgg
            by_cases h0 : gg = 0
            · exact .inl h0
            · exact .inr ⟨h0, hgg⟩
        have HJ := Lib.hid hjn
        have HKT : Hid (k + ((T.drop k).take q).length ≤ T.length) := Lib.hid (by have := HG.out.2; rw [List.length_take, List.length_drop]; omega)
        clear hy hq hgg hS2 hjn hle hbb
        go_wp2_with fail
        refine HST.out.mono ?_
        rintro e w3 ⟨s3, o3, rfl, u3, d3⟩
        have HW3 := Lib.hid (HW.out.did u3 d3)
        have HG3 : Hid ((G ++ S2).data.toList = T.take (k + ((T.drop k).take q).length)) := Lib.hid (by
          rw [ByteArray.data_append, Array.toList_append, HG.out.1, HS2.out, List.take_add, List.length_take]
          congr 1
          exact take_min q (T.drop k))
        clear u3 d3 HST
        rcases hg2 with h0 | ⟨h0, hE⟩
        · subst h0
          go_wp2
          go_roundw
          case rel => exact ⟨j + 1, _, _, o3, s3, by go_num, rfl, by have := HJ.out; omega, Lib.hid ⟨HG3.out, HKT.out⟩, HW3⟩
          case measure => have := HJ.out; simp [intOf]; omega
        · subst hE
          have hgb : (gg != 0) = true := by simp [h0]
          clear h0
          go_wp2
          go_roundw
          case rel => exact ⟨j + 1, _, _, o3, s3, by go_num, rfl, by have := HJ.out; omega, Lib.hid ⟨HG3.out, HKT.out⟩, HW3⟩
          case measure => have := HJ.out; simp [intOf]; omega
      · -- the loop's end: all that is left
        have hexit : ¬ ((j : Int) < (n : Int) ∧ (j : Int) < 60) := by omega
        have hex2 : (j : Int) < (n : Int) → ¬ ((j : Int) < 60) := fun h h2 => hexit ⟨h, h2⟩
        have HST := Step_any HW.out.u (HO1.out.below HW.out.b) (HW.out.low HO1.out) H1.out (Nat.zero_le _) (n := 16777216) (by omega) (by omega)
        rw [show ((16777216 : Nat) : Int) = 16777216 from rfl] at HST
        obtain ⟨q, hq⟩ : ∃ q, q = 16777216 := ⟨_, rfl⟩
        rw [← hq] at HST
        unfold steps next at HST
        rw [← HR.out] at HST
        dsimp only at HST
        obtain ⟨gg, hgg⟩ : ∃ gg : Int, gg = if k < T.length then 0 else E := ⟨_, rfl⟩
        rw [← hgg] at HST
        obtain ⟨S2, hS2⟩ : ∃ S2 : ByteArray, S2 = ⟨((T.drop k).take q).toArray⟩ := ⟨_, rfl⟩
        rw [← hS2] at HST
        have HST := Lib.hid HST
        have hall : (T.drop k).take q = T.drop k := List.take_of_length_le (by have := HTL.out; rw [List.length_drop]; omega)
        have HS2 : Hid (S2.data.toList = T.drop k) := Lib.hid (by rw [hS2, hall])
        have HKE : Hid (k + ((T.drop k).take q).length = T.length) := Lib.hid (by have := HG.out.2; rw [hall, List.length_drop]; omega)
        have hcat : ¬ (9223372036854775807 < G.size + S2.size) := by
          have h1 := HTL.out
          have h2 := HGS.out
          have h3 : S2.size ≤ 9000000 := by
            show S2.data.size ≤ 9000000
            rw [← Array.length_toList, HS2.out, List.length_drop]; omega
          omega
        have HGT : Hid ((G ++ S2).data.toList = T) := Lib.hid (by rw [ByteArray.data_append, Array.toList_append, HG.out.1, HS2.out, List.take_append_drop])
        have HGG := Lib.hid hgg
        have hg2 : gg = 0 ∨ (gg ≠ 0 ∧ gg = E) := by
          by_cases h : k < T.length
          · rw [if_pos h] at hgg; exact .inl hgg
          · rw [if_neg h] at hgg
            by_cases h0 : gg = 0
            · exact .inl h0
            · exact .inr ⟨h0, hgg⟩
        have hgE : E = 0 → gg = 0 := fun h => by rcases hg2 with h2 | ⟨h2, h3⟩; exact h2; exact absurd (h3.trans h) h2
        have HG2 := Lib.hid hg2
        have HGE := Lib.hid hgE
        have HHQ := Lib.hid hq
        clear hq hgg hS2 hall hg2 hgE hexit hjn
        have hways : ¬ ((j : Int) < (n : Int)) ∨ ((j : Int) < (n : Int) ∧ ¬ ((j : Int) < 60)) := by
          by_cases h : (j : Int) < (n : Int)
          · exact .inr ⟨h, hex2 h⟩
          · exact .inl h
        clear hex2
        by_cases hE : E = 0
        · subst hE
          obtain ⟨hX1, hX2, b0, hX3⟩ := HX.out rfl
          obtain rfl : X = G ++ S2 := ba_ext (by rw [hX1, HGT.out])
          have hgg0 := HGE.out rfl
          subst hgg0
          subst hX2
          have HS3 := Lib.hid hX3
          have hkk : doneB s 0 p (k + ((T.drop k).take q).length) true := by
            unfold doneB
            rw [← HR.out, HKE.out]
            exact ⟨fun _ => ⟨rfl, rfl⟩, fun _ => rfl⟩
          have HKK := Lib.hid hkk
          clear hX1 hX3 HX HGE HG2 HGG hkk
          rcases hways with h | ⟨h, h2⟩
          all_goals
            go_wp2_with fail
            refine HST.out.mono ?_
            rintro e w3 ⟨s3, o3, rfl, u3, d3⟩
            have HW3 := Lib.hid (HW.out.did u3 d3)
            clear u3 d3 HST
            obtain ⟨bd, hbd, hDn⟩ := Done_any HW3.out.u
            obtain rfl : bd = true := hbd.2 (HKK.out.1 rfl)
            obtain ⟨be, hbe, hEn⟩ := End_any HW3.out.u
            obtain rfl : be = true := hbe.2 (HKK.out.1 rfl)
            rw [if_pos rfl, ← HR.out] at hEn
            dsimp only at hEn
            have HDN := Lib.hid hDn
            have HEN := Lib.hid hEn
            obtain ⟨bs, hbs, hSt⟩ := Starts_any HW3.out.u (by have h1 := Ih.count HW3.out.u.v (Nat.zero_le _); have h2 := H1.out; omega)
            obtain rfl : bs = true := hbs.2 (HKK.out.1 rfl)
            rw [if_pos rfl, ← HR.out] at hSt
            dsimp only at hSt
            have HST := Lib.hid hSt
            have HLL : Hid (L.length ≤ 1000000) := Lib.hid (by have h := starts_len s p H1.out; rw [← HR.out] at h; exact Nat.le_trans h (by omega))
            clear hbd hbe hbs hDn hEn hSt
            go_wp2_with fail
            refine HDN.out.mono ?_
            rintro e w' ⟨rfl, rfl⟩
            go_wp2_with fail
            refine HEN.out.mono ?_
            rintro e w' ⟨rfl, rfl⟩
            go_wp2_with fail
            refine HST.out.mono ?_
            rintro e w4 ⟨v4, rfl, r4, b4⟩
            have R4 := Lib.hid r4
            have B4 := Lib.hid b4
            obtain ⟨A4, c4, hv4, _⟩ := r4.form
            subst hv4
            clear r4 b4
            go_wp2_with fail
            refine (starts_any R4.out HLL.out).mono ?_
            rintro e w5 ⟨v5, rfl, r5, b5⟩
            have R5 := Lib.hid r5
            have B5 := Lib.hid b5
            obtain ⟨A5, c5, hv5, _⟩ := r5.form
            subst hv5
            clear r5 b5
            go_wp2_with fail
            refine (starts_any (((HS3.out.below HW3.out.b).below B4.out).below B5.out) HLL.out).mono ?_
            rintro e w6 ⟨v6, rfl, r6, b6⟩
            have R6 := Lib.hid r6
            have B6 := Lib.hid b6
            obtain ⟨A6, c6, hv6, _⟩ := r6.form
            subst hv6
            clear r6 b6
            go_wp2_with fail
            refine (Starts_same (R5.out.below B6.out) R6.out HLL.out).mono ?_
            rintro e w7 ⟨rfl, b7⟩
            have B7 := Lib.hid b7
            have BB := Lib.hid (grows (grows (grows (grows (grows B1.out HW3.out.b) B4.out) B5.out) B6.out) B7.out)
            clear b7
            go_wp2_with fail
            refine (HK.out _ (HO.out.below BB.out)).mono ?_
            rintro e w8 ⟨rfl, b8⟩
            go_wp2
            go_ret
            exact ⟨rfl, grows BB.out b8⟩
        · have hEb : (E != 0) = true := by simp [hE]
          have HE := Lib.hid hE
          clear hE HX
          rcases hways with h | ⟨h, h2⟩
          all_goals
            go_wp2_with fail
            refine HST.out.mono ?_
            rintro e w3 ⟨s3, o3, rfl, u3, d3⟩
            have HW3 := Lib.hid (HW.out.did u3 d3)
            have HS1 := Step_any HW3.out.u (HO1.out.below HW3.out.b) (HW3.out.low HO1.out) H1.out (Nat.zero_le _) (n := 1) (by omega) (by omega)
            rw [show ((1 : Nat) : Int) = 1 from rfl] at HS1
            unfold steps next at HS1
            rw [← HR.out] at HS1
            dsimp only at HS1
            rw [HKE.out, List.drop_eq_nil_of_le (Nat.le_refl _), List.take_nil, if_neg (Nat.lt_irrefl _)] at HS1
            have HS1 := Lib.hid HS1
            clear u3 d3 HST
            go_wp2_with fail
            refine HS1.out.mono ?_
            rintro e w4 ⟨s4, o4, rfl, u4, d4⟩
            have HW4 := Lib.hid (HW3.out.did u4 d4)
            obtain ⟨bd, hbd, hDn⟩ := Done_any HW4.out.u
            obtain rfl : bd = false := by
              cases hb : bd
              · rfl
              · have h3 := (hbd.1 hb).2
                rw [← HR.out] at h3
                exact absurd h3 HE.out
            have HDN := Lib.hid hDn
            have BB := Lib.hid (grows B1.out HW4.out.b)
            clear u4 d4 hbd hDn HS1
            rcases HG2.out with h0 | ⟨h0, hge⟩
            · subst h0
              have he0 : ((0 : Int) == E) = false := by have := HE.out; simp; omega
              go_wp2_with fail
              refine HDN.out.mono ?_
              rintro e w' ⟨rfl, rfl⟩
              go_wp2_with fail
              refine (HK.out _ (HO.out.below BB.out)).mono ?_
              rintro e w8 ⟨rfl, b8⟩
              go_wp2
              go_ret
              exact ⟨rfl, grows BB.out b8⟩
            · subst hge
              clear h0
              go_wp2_with fail
              refine HDN.out.mono ?_
              rintro e w' ⟨rfl, rfl⟩
              go_wp2_with fail
              refine (HK.out _ (HO.out.below BB.out)).mono ?_
              rintro e w8 ⟨rfl, b8⟩
              go_wp2
              go_ret
              exact ⟨rfl, grows BB.out b8⟩
  · rw [decide_eq_false (fun h => h1 h.1)] at HS
    clear h1
    go_enter Tryd.func3, Tryd.ntmps3
    go_wp2_with fail
    refine (HS.out _).mono ?_
    rintro e w' ⟨rfl, rfl⟩
    go_wp2_with fail
    refine (HK.out _ HO.out).mono ?_
    rintro e w2 ⟨rfl, b2⟩
    go_wp2
    go_ret
    exact ⟨rfl, b2⟩
end Go.Proofs.YtkcnjhkbcjnbkaaDoor.inflateSteps
