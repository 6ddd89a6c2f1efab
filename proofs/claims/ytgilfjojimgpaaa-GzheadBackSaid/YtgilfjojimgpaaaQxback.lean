/-
  The walk of collimatorlaw12.GzheadBack.
-/
import Derived.Test.YtgilfjojimgpaaaQw
import Derived.Test.YtgilfjojimgpaaaCc
namespace Go.Proofs.Ytgilfjojimgpaaa.gzheadBack
open Go.RowKit
open Go.Proofs.Ytgilfjojimgpaaa.Vm Go.Proofs.Ytgilfjojimgpaaa.Vo Go.Proofs.Ytgilfjojimgpaaa.Vf Go.Proofs.Ytgilfjojimgpaaa.Bw Go.Proofs.Ytgilfjojimgpaaa.Bm Go.Proofs.Ytgilfjojimgpaaa.Qm Go.Proofs.Ytgilfjojimgpaaa.Qa Go.Proofs.Ytgilfjojimgpaaa.Qb Go.Proofs.Ytgilfjojimgpaaa.Qc Go.Proofs.Ytgilfjojimgpaaa.Qd Go.Proofs.Ytgilfjojimgpaaa.Qf Go.Proofs.Ytgilfjojimgpaaa.Qg Go.Proofs.Ytgilfjojimgpaaa.Qn Go.Proofs.Ytgilfjojimgpaaa.Qk Go.Proofs.Ytgilfjojimgpaaa.Qw

/-- A case's cells. -/
abbrev c12 (t : Int) (e n c : ByteArray) (v o : Int) (x m : Bool) (f : Int) (A C : ByteArray) (k : Int) : Array Value := #[.int .i64 t, .string e, .string n, .string c, .int .i64 v, .int .i64 o, .bool x, .bool m, .int .i64 f, .string A, .string C, .int .i64 k]
theorem twelve {a : World} {g : Nat} {t : Int} {e n c : ByteArray} {v o : Int} {x m : Bool} {f : Int} {A C : ByteArray} {k : Int} {T : TypeId} (h : Blk a g T (c12 t e n c v o x m f A C k)) : (a.cell? ⟨g, 0, none⟩ = some (.int .i64 t) ∧ a.cell? ⟨g, 1, none⟩ = some (.string e) ∧ a.cell? ⟨g, 2, none⟩ = some (.string n) ∧ a.cell? ⟨g, 3, none⟩ = some (.string c) ∧ a.cell? ⟨g, 4, none⟩ = some (.int .i64 v) ∧ a.cell? ⟨g, 5, none⟩ = some (.int .i64 o) ∧ a.cell? ⟨g, 6, none⟩ = some (.bool x) ∧ a.cell? ⟨g, 7, none⟩ = some (.bool m) ∧ a.cell? ⟨g, 8, none⟩ = some (.int .i64 f)) ∧ a.cell? ⟨g, 9, none⟩ = some (.string A) ∧ a.cell? ⟨g, 10, none⟩ = some (.string C) ∧ a.cell? ⟨g, 11, none⟩ = some (.int .i64 k) :=
  ⟨⟨h.cell 0, h.cell 1, h.cell 2, h.cell 3, h.cell 4, h.cell 5, h.cell 6, h.cell 7, h.cell 8⟩, h.cell 9, h.cell 10, h.cell 11⟩
theorem str_inj {a b : ByteArray} (h : a.data.toList = b.data.toList) : a = b := (str_list h).trans (str_list rfl).symm
theorem hq_inj {t t' : Int} {e n c e' n' c' : ByteArray} {v o v' o' : Int} {x m x' m' : Bool} {f f' : Int} (h : hq t e n c v o x m f = hq t' e' n' c' v' o' x' m' f') : t = t' ∧ e = e' ∧ n = n' ∧ c = c' ∧ v = v' ∧ o = o' ∧ x = x' ∧ m = m' ∧ f = f' := by
  unfold hq at h
  injection h with f1 f2 f3 f4 f5 f6 f7 f8 f9
  exact ⟨f1, str_inj f2, str_inj f3, str_inj f4, f5, f6, f7, f8, f9⟩

set_option maxHeartbeats 4000000 in
set_option maxRecDepth 100000 in
theorem walk (t : Int) (e n c : ByteArray) (v o : Int) (x m : Bool) (f : Int) (A C : ByteArray) (k : Int) (hw : Qy.hdW t e n c v o f ∧ A.size ≤ maxLen ∧ C.size ≤ maxLen ∧ Qy.i64 k) (w : World) :
    Calls Try.prog 5 #[.agg (c12 t e n c v o x m f A C k)] w fun e' w' => e' = .returned (.bool true) ∧ Below w.heap.size w w' := by
  have hf := i64_b hw.1.f
  have hk := i64_b hw.2.2.2
  have HL := Lib.hid (light_any t e n c v o x m f)
  obtain ⟨bl, hbl⟩ : ∃ b, b = liB e n c := ⟨_, rfl⟩
  rw [← hbl] at HL
  obtain ⟨w1, hw1⟩ : ∃ w1, w1 = w.alloc (.cells (c12 t e n c v o x m f A C k) 33) := ⟨_, rfl⟩
  have K1 : Hid (Blk w1 w.heap.size 33 (c12 t e n c v o x m f A C k)) := Lib.hid (by rw [hw1]; exact Blk.fresh w _ _)
  have B1 : Hid (Below w.heap.size w w1) := Lib.hid (by rw [hw1]; exact (Below.refl _ w).alloc (Nat.le_refl _) _)
  cases bl
  · clear hbl hf hw hk
    go_enter Try.func5, Try.ntmps5
    go_wp2_with fail
    rw [← hw1]
    refine (HL.out w1).mono ?_
    rintro e' w2 ⟨rfl, b2⟩
    have B2 := Lib.hid (grows B1.out b2)
    clear b2 hw1
    go_wp2_with (go_at_call 8; refine (known_any _).mono ?_; rintro e' w3 ⟨rfl, b3⟩)
    go_ret
    exact ⟨rfl, grows B2.out b3⟩
  · obtain ⟨le1, le2, le3⟩ := li_of hbl.symm
    obtain ⟨β, hβ⟩ := right_bool (hq t e n c v o x m f)
    have HR := Lib.hid (Right_is hβ hf.1 hf.2)
    have HB := Lib.hid (Build_is hβ hf.1 hf.2 (by omega) (by omega))
    clear hbl hf hw
    by_cases hA : (1000 : Int) < (A.size : Int)
    · clear hk
      go_enter Try.func5, Try.ntmps5
      go_wp2_with fail
      rw [← hw1]
      refine (HL.out w1).mono ?_
      rintro e' w2 ⟨rfl, b2⟩
      obtain ⟨_, n9, n10, n11⟩ := twelve (K1.out.below b2)
      have B2 := Lib.hid (grows B1.out b2)
      clear b2 hw1
      go_wp2_with (go_at_call 8; refine (known_any _).mono ?_; rintro e' w3 ⟨rfl, b3⟩)
      go_ret
      exact ⟨rfl, grows B2.out b3⟩
    by_cases hC : (1000 : Int) < (C.size : Int)
    · clear hk
      go_enter Try.func5, Try.ntmps5
      go_wp2_with fail
      rw [← hw1]
      refine (HL.out w1).mono ?_
      rintro e' w2 ⟨rfl, b2⟩
      obtain ⟨_, n9, n10, n11⟩ := twelve (K1.out.below b2)
      have B2 := Lib.hid (grows B1.out b2)
      clear b2 hw1
      go_wp2_with (go_at_call 8; refine (known_any _).mono ?_; rintro e' w3 ⟨rfl, b3⟩)
      go_ret
      exact ⟨rfl, grows B2.out b3⟩
    cases β
    · have HB' : Hid (∀ u, Calls Try.prog 9 #[.agg (cs9 t e n c v o x m f)] u fun e' w' => e' = .returned (.tuple #[.string ⟨#[]⟩, .int .i64 4]) ∧ Below u.heap.size u w') := Lib.hid HB.out
      clear HB hk hβ le1 le2 le3
      go_enter Try.func5, Try.ntmps5
      go_wp2_with fail
      rw [← hw1]
      refine (HL.out w1).mono ?_
      rintro e' w2 ⟨rfl, b2⟩
      have K2 := Lib.hid (K1.out.below b2)
      have B2 := Lib.hid (grows B1.out b2)
      clear b2 hw1 K1 B1
      obtain ⟨⟨n0, n1, n2, n3, n4, n5, n6, n7, n8⟩, n9, n10, n11⟩ := twelve K2.out
      go_wp2_with fail
      clear n0 n1 n2 n3 n4 n5 n6 n7 n8 n9 n10 n11
      refine (HB'.out w2).mono ?_
      rintro e' w3 ⟨rfl, b3⟩
      have K3 := Lib.hid (K2.out.below b3)
      have B3 := Lib.hid (grows B2.out b3)
      clear b3 K2 B2
      obtain ⟨⟨n0, n1, n2, n3, n4, n5, n6, n7, n8⟩, n9, n10, n11⟩ := twelve K3.out
      go_wp2_with (first | (go_at_call 11; refine (HR.out _).mono ?_; rintro e' w4 ⟨rfl, b4⟩) | (go_at_call 8; refine (known_any _).mono ?_; rintro e' w5 ⟨rfl, b5⟩))
      go_ret
      exact ⟨rfl, grows (grows B3.out b4) b5⟩
    · have hr := hβ.1 rfl
      obtain ⟨S, hS⟩ : ∃ S : ByteArray, S = ⟨(encQ crl (hq t e n c v o x m f)).toArray⟩ := ⟨_, rfl⟩
      have hSl : S.data.toList = encQ crl (hq t e n c v o x m f) := by rw [hS]
      have hlen := enc_len (hq t e n c v o x m f)
      rw [← hSl, Qh.len_eq] at hlen
      have hS1 : S.size ≤ 80000 := by
        have h1 : (hq t e n c v o x m f).e.length = e.size := Qh.len_eq e
        have h2 : (hq t e n c v o x m f).n.length = n.size := Qh.len_eq n
        have h3 : (hq t e n c v o x m f).c.length = c.size := Qh.len_eq c
        omega
      have hS0 : 10 ≤ S.size := hlen.2
      have HB' : Hid (∀ u, Calls Try.prog 9 #[.agg (cs9 t e n c v o x m f)] u fun e' w' => e' = .returned (.tuple #[.string S, .int .i64 0]) ∧ Below u.heap.size u w') := Lib.hid (fun u => by rw [hS]; exact HB.out u)
      have HP := Lib.hid (Parse_any (A ++ S ++ C) (A.size : Int) · (by rw [ByteArray.size_append, ByteArray.size_append]; omega) (by omega) (by omega))
      obtain ⟨j, hj⟩ : ∃ j, j = Cc.cnt k S.size := ⟨_, rfl⟩
      have hjl : j < S.size := by rw [hj]; exact Cc.cnt_lt k (by omega)
      have HCN := Lib.hid (fun u => Cc.Count_any k S.size ⟨hk.1, hk.2⟩ (by omega) (by omega) u)
      rw [← hj] at HCN
      have hsl := cut_low (S := S) (Nat.le_of_lt hjl)
      have HPC := Lib.hid (Parse_any (S.extract 0 j) 0 · (by rw [ByteArray.size_extract]; omega) (by omega) (by omega))
      have hcut := prs_cut crl hr (k := j) (by rw [← hSl, Qh.len_eq]; exact hjl)
      have HCUT := Lib.hid (show (prsQ crl ((S.extract 0 j).data.toList.drop 0)).1 = 2 by rw [List.drop_zero, extract_zero, hSl]; exact hcut)
      have HENC := Lib.hid (show prsQ crl ((A ++ S ++ C).data.toList.drop A.size) = (0, hq t e n c v o x m f, S.size) by
        rw [app_list, app_list, List.append_assoc, List.drop_left' (Qh.len_eq A), hSl, prs_enc crl hr, ← hSl, Qh.len_eq])
      generalize S.extract 0 j = S2 at *
      clear HB hβ hr hS hSl hlen hcut hj hk le1 le2 le3
      have hi1 : (10 : Int) ≤ (S.size : Int) := by omega
      go_enter Try.func5, Try.ntmps5
      go_wp2_with fail
      rw [← hw1]
      refine (HL.out w1).mono ?_
      rintro e' w2 ⟨rfl, b2⟩
      have K2 := Lib.hid (K1.out.below b2)
      have B2 := Lib.hid (grows B1.out b2)
      clear b2 hw1 K1 B1
      obtain ⟨⟨n0, n1, n2, n3, n4, n5, n6, n7, n8⟩, n9, n10, n11⟩ := twelve K2.out
      go_wp2_with fail
      clear n0 n1 n2 n3 n4 n5 n6 n7 n8 n9 n10 n11
      refine (HB'.out w2).mono ?_
      rintro e' w3 ⟨rfl, b3⟩
      have K3 := Lib.hid (K2.out.below b3)
      have B3 := Lib.hid (grows B2.out b3)
      clear b3 K2 B2
      obtain ⟨⟨n0, n1, n2, n3, n4, n5, n6, n7, n8⟩, n9, n10, n11⟩ := twelve K3.out
      go_wp2_with fail
      clear n0 n1 n2 n3 n4 n5 n6 n7 n8 n9 n10 n11
      refine (HP.out w3).mono ?_
      rintro e' w4 ⟨⟨t', e'', n', c', v', o', x', m', f', z, er, rfl, hp⟩, b4⟩
      obtain ⟨kk, hkk, hz⟩ := ps_at hp
      rw [HENC.out] at hkk
      have her : er = 0 := (congrArg Prod.fst hkk).symm
      have hkq : hq t e n c v o x m f = hq t' e'' n' c' v' o' x' m' f' := congrArg (fun y => y.2.1) hkk
      have hkn : S.size = kk := congrArg (fun y => y.2.2) hkk
      obtain ⟨q1, q2, q3, q4, q5, q6, q7, q8, q9⟩ := hq_inj hkq
      subst q1; subst q2; subst q3; subst q4; subst q5; subst q6; subst q7; subst q8; subst q9; subst her
      have hz' : z = (A.size : Int) + (S.size : Int) := by rw [hz, if_pos rfl, ← hkn]; push_cast; rfl
      clear hp hkk hz hkq hkn
      subst hz'
      have K4 := Lib.hid (K3.out.below b4)
      have B4 := Lib.hid (grows B3.out b4)
      clear b4 K3 B3
      have K5 : Hid (Blk (w4.alloc (.cells (cs9 t e n c v o x m f) 23)) w4.heap.size 23 (cs9 t e n c v o x m f)) := Lib.hid (Blk.fresh w4 _ _)
      have K6 : Hid (Blk (w4.alloc (.cells (cs9 t e n c v o x m f) 23)) w.heap.size 33 (c12 t e n c v o x m f A C k)) := Lib.hid (K4.out.below ((Below.refl _ w4).alloc (Nat.le_refl _) _))
      have B5 : Hid (Below w.heap.size w (w4.alloc (.cells (cs9 t e n c v o x m f) 23))) := Lib.hid (B4.out.alloc B4.out.size _)
      clear K4
      obtain ⟨⟨n0, n1, n2, n3, n4, n5, n6, n7, n8⟩, n9, n10, n11⟩ := twelve K6.out
      obtain ⟨r0, r1, r2, r3, r4, r5, r6, r7, r8⟩ := nine K5.out
      go_wp2_with fail
      refine (HCN.out _).mono ?_
      rintro e' w5 ⟨rfl, rfl⟩
      clear n0 n1 n2 n3 n4 n5 n6 n7 n8 n9 n10 n11 r0 r1 r2 r3 r4 r5 r6 r7 r8
      go_wp2_with fail
      refine (HPC.out _).mono ?_
      rintro e' w6 ⟨⟨t1, e1, n1, c1, v1, o1, x1, m1, f1, z1, er1, rfl, hp⟩, b6⟩
      obtain ⟨kk, hkk, _⟩ := ps_at (p := 0) hp
      have her : er1 = 2 := by have := HCUT.out; rw [hkk] at this; exact this
      subst her
      clear hp hkk
      have B6 := Lib.hid (B5.out.trans (b6.mono B5.out.size))
      clear b6 B5 K5 K6
      go_wp2_with (go_at_call 8; refine (known_any _).mono ?_; rintro e' w7 ⟨rfl, b7⟩)
      go_ret
      exact ⟨rfl, (B6.out.alloc B6.out.size _).trans (b7.mono (by have := (B6.out.alloc B6.out.size (.cells (cs9 t1 e1 n1 c1 v1 o1 x1 m1 f1) 23)).size; exact this))⟩
end Go.Proofs.Ytgilfjojimgpaaa.gzheadBack
