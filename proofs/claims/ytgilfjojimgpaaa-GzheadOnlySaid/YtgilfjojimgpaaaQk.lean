/-
  Layer 12: known() is true; what light answers.
  Conditions: none.
-/
import Derived.Test.YtgilfjojimgpaaaQn
namespace Go.Proofs.Ytgilfjojimgpaaa.Qk
open Go.RowKit Go.Proofs.Ytgilfjojimgpaaa.Vm Go.Proofs.Ytgilfjojimgpaaa.Vo Go.Proofs.Ytgilfjojimgpaaa.Vf Go.Proofs.Ytgilfjojimgpaaa.Bw Go.Proofs.Ytgilfjojimgpaaa.Bm Go.Proofs.Ytgilfjojimgpaaa.Qm Go.Proofs.Ytgilfjojimgpaaa.Qa Go.Proofs.Ytgilfjojimgpaaa.Qb Go.Proofs.Ytgilfjojimgpaaa.Qc Go.Proofs.Ytgilfjojimgpaaa.Qd Go.Proofs.Ytgilfjojimgpaaa.Qn

theorem Parse_any (s : ByteArray) (a : Int) (w : World) (hs : s.size ≤ 281474976710656) (h0 : -9223372036854775808 ≤ a) (h1 : a ≤ 9223372036854775807) :
    Calls Try.prog 13 #[.string s, .int .i64 a] w (psA s.data.toList a w) := by
  by_cases h : (Ql.bgR s.data.toList a).2 = 0
  · exact Parse_yes s a w hs h0 h1 h
  · exact Parse_no s a w hs h0 h1 h

/-- Are a head's texts small? -/
def liB (e n c : ByteArray) : Bool := decide (e.size ≤ 70000 ∧ n.size ≤ 2000 ∧ c.size ≤ 2000)
set_option maxRecDepth 100000 in
theorem light_any (t : Int) (e n c : ByteArray) (v o : Int) (x m : Bool) (f : Int) (w : World) :
    Calls Try.prog 7 #[.agg (cs9 t e n c v o x m f)] w fun e' w' => e' = .returned (.bool (liB e n c)) ∧ Below w.heap.size w w' := by
  by_cases he : e.size ≤ 70000
  · have he' : (e.size : Int) ≤ 70000 := by omega
    by_cases hn : n.size ≤ 2000
    · have hn' : (n.size : Int) ≤ 2000 := by omega
      by_cases hc : c.size ≤ 2000
      · have hc' : (c.size : Int) ≤ 2000 := by omega
        have HL := Lib.hid (show liB e n c = true from decide_eq_true ⟨he, hn, hc⟩)
        go_enter Try.func7, Try.ntmps7
        go_wp2
        go_ret
        exact ⟨ret_bool HL.out.symm, (Below.refl _ w).alloc (Nat.le_refl _) _⟩
      · have hc' : ¬ (c.size : Int) ≤ 2000 := by omega
        have HL := Lib.hid (show liB e n c = false from decide_eq_false (fun k => hc k.2.2))
        go_enter Try.func7, Try.ntmps7
        go_wp2
        go_ret
        exact ⟨ret_bool HL.out.symm, (Below.refl _ w).alloc (Nat.le_refl _) _⟩
    · have hn' : ¬ (n.size : Int) ≤ 2000 := by omega
      have HL := Lib.hid (show liB e n c = false from decide_eq_false (fun k => hn k.2.1))
      go_enter Try.func7, Try.ntmps7
      go_wp2
      go_ret
      exact ⟨ret_bool HL.out.symm, (Below.refl _ w).alloc (Nat.le_refl _) _⟩
  · have he' : ¬ (e.size : Int) ≤ 70000 := by omega
    have HL := Lib.hid (show liB e n c = false from decide_eq_false (fun k => he k.1))
    go_enter Try.func7, Try.ntmps7
    go_wp2
    go_ret
    exact ⟨ret_bool HL.out.symm, (Below.refl _ w).alloc (Nat.le_refl _) _⟩

theorem nil_str {e : ByteArray} (h : e.data.toList = []) : e = ⟨#[]⟩ := str_list h
theorem k1 : encQ crl (hq 0 ⟨#[]⟩ ⟨#[]⟩ ⟨#[]⟩ 0 255 false false 0) = [31, 139, 8, 0, 0, 0, 0, 0, 0, 255] := by decide +kernel
theorem k2 : prsQ crl ((⟨#[63, 31, 139, 8, 8, 0, 0, 0, 0, 0, 3, 97, 0, 98]⟩ : ByteArray).data.toList.drop 1) = (0, ⟨0, [], [97], [], 0, 3, false, false, 8⟩, 12) := by rfl
theorem k3 : (prsQ crl ((⟨#[31, 139, 9, 0, 0, 0, 0, 0, 0, 0]⟩ : ByteArray).data.toList.drop 0)).1 = 12 := by rfl
theorem k4 : (prsQ crl ((⟨#[31, 139, 8]⟩ : ByteArray).data.toList.drop 0)).1 = 2 := by rfl
theorem r1 : rightQ (hq 0 ⟨#[]⟩ ⟨#[]⟩ ⟨#[]⟩ 0 255 false false 0) := by unfold rightQ hq; simp
theorem r2 : rightQ (hq 0 ⟨#[]⟩ ⟨#[97]⟩ ⟨#[]⟩ 0 3 false false 8) := by unfold rightQ hq; simp
theorem ps_at {l : List UInt8} {p : Nat} {q : Hq} {z er : Int} (h : psR l (p : Int) q z er) : ∃ k, prsQ crl (l.drop p) = (er, q, k) ∧ z = if er = 0 then ((p + k : Nat) : Int) else 0 := by
  rcases h with ⟨h, _⟩ | ⟨p', k, h1, h2, h3⟩
  · omega
  · obtain rfl : p = p' := by omega
    exact ⟨k, h2, h3⟩

set_option maxHeartbeats 4000000 in
set_option maxRecDepth 100000 in
theorem known_any (w : World) : Calls Try.prog 8 #[] w fun e w' => e = .returned (.bool true) ∧ Below w.heap.size w w' := by
  have HB := Lib.hid (Build_yes 0 ⟨#[]⟩ ⟨#[]⟩ ⟨#[]⟩ 0 255 false false 0 w (by decide) (by decide) r1)
  rw [k1] at HB
  have HP := Lib.hid (Parse_any ⟨#[63, 31, 139, 8, 8, 0, 0, 0, 0, 0, 3, 97, 0, 98]⟩ 1 · (by decide) (by decide) (by decide))
  have HQ := Lib.hid (Parse_any ⟨#[31, 139, 9, 0, 0, 0, 0, 0, 0, 0]⟩ 0 · (by decide) (by decide) (by decide))
  have HR := Lib.hid (Parse_any ⟨#[31, 139, 8]⟩ 0 · (by decide) (by decide) (by decide))
  have HT := Lib.hid (Right_any 0 ⟨#[]⟩ ⟨#[97]⟩ ⟨#[]⟩ 0 3 false false 8 · (by decide) (by decide))
  go_enter Try.func8, Try.ntmps8
  go_wp2_with fail
  refine HB.out.mono ?_
  rintro e' w1 ⟨rfl, b1⟩
  have B1 := Lib.hid b1
  clear b1
  go_wp2_with fail
  refine (HP.out _).mono ?_
  rintro e' w2 ⟨⟨t, e, n, c, v, o, x, m, f, z, er, rfl, hp⟩, b2⟩
  obtain ⟨k, hk, hz⟩ := ps_at (p := 1) hp
  rw [k2] at hk
  injection hk with e1 hk
  injection hk with e2 e3
  injection e2 with f1 f2 f3 f4 f5 f6 f7 f8 f9
  obtain rfl : e = ⟨#[]⟩ := nil_str f2.symm
  obtain rfl : n = ⟨#[97]⟩ := str_list f3.symm
  obtain rfl : c = ⟨#[]⟩ := nil_str f4.symm
  subst e1; subst f1; subst f5; subst f6; subst f7; subst f8; subst f9; subst e3
  obtain rfl : z = 13 := by rw [hz]; rfl
  have B2 := Lib.hid (grows B1.out b2)
  clear hp hz b2 f2 f3 f4
  obtain ⟨w3, hw3⟩ : ∃ w3, w3 = w2.alloc (.cells (cs9 0 ⟨#[]⟩ ⟨#[97]⟩ ⟨#[]⟩ 0 3 false false 8) 23) := ⟨_, rfl⟩
  have K3 : Blk w3 w2.heap.size 23 (cs9 0 ⟨#[]⟩ ⟨#[97]⟩ ⟨#[]⟩ 0 3 false false 8) := by rw [hw3]; exact Blk.fresh w2 _ _
  have B3 : Below w.heap.size w w3 := by rw [hw3]; exact B2.out.alloc B2.out.size _
  have K3 := Lib.hid K3; have B3 := Lib.hid B3
  go_wp2_with fail
  rw [← hw3]
  clear hw3 B2 B1
  refine (HQ.out w3).mono ?_
  rintro e' w4 ⟨⟨t1, e1, n1, c1, v1, o1, x1, m1, f1, z1, er1, rfl, hp⟩, b4⟩
  obtain ⟨k, hk, _⟩ := ps_at (p := 0) hp
  obtain rfl : er1 = 12 := by have := k3; rw [hk] at this; exact this
  clear hp hk
  have K4 := Lib.hid (K3.out.below b4); have B4 := Lib.hid (grows B3.out b4)
  clear b4 K3 B3
  obtain ⟨w5, hw5⟩ : ∃ w5, w5 = w4.alloc (.cells (cs9 t1 e1 n1 c1 v1 o1 x1 m1 f1) 23) := ⟨_, rfl⟩
  have K5 := Lib.hid (show Blk w5 w2.heap.size 23 (cs9 0 ⟨#[]⟩ ⟨#[97]⟩ ⟨#[]⟩ 0 3 false false 8) by rw [hw5]; exact K4.out.below ((Below.refl _ w4).alloc (Nat.le_refl _) _))
  have B5 := Lib.hid (show Below w.heap.size w w5 by rw [hw5]; exact B4.out.alloc B4.out.size _)
  go_wp2_with fail
  rw [← hw5]
  clear hw5 B4 K4
  refine (HR.out w5).mono ?_
  rintro e' w6 ⟨⟨t2, e2, n2, c2, v2, o2, x2, m2, f2, z2, er2, rfl, hp⟩, b6⟩
  obtain ⟨k, hk, _⟩ := ps_at (p := 0) hp
  obtain rfl : er2 = 2 := by have := k4; rw [hk] at this; exact this
  clear hp hk
  have K6 := Lib.hid (K5.out.below b6); have B6 := Lib.hid (grows B5.out b6)
  clear b6 K5 B5
  have K7 : Blk (w6.alloc (.cells #[.int .i64 t2, .string e2, .string n2, .string c2, .int .i64 v2, .int .i64 o2, .bool x2, .bool m2, .int .i64 f2] 23)) w2.heap.size 23 (cs9 0 ⟨#[]⟩ ⟨#[97]⟩ ⟨#[]⟩ 0 3 false false 8) := K6.out.below ((Below.refl _ w6).alloc (Nat.le_refl _) _)
  have B7 := Lib.hid (show Below w.heap.size w (w6.alloc (.cells #[.int .i64 t2, .string e2, .string n2, .string c2, .int .i64 v2, .int .i64 o2, .bool x2, .bool m2, .int .i64 f2] 23)) from B6.out.alloc B6.out.size _)
  obtain ⟨n0, n1', n2', n3, n4, n5, n6, n7, n8⟩ := nine K7
  clear K7
  go_wp2_with (go_at_call 11; refine (HT.out _).mono ?_; rintro e' w8 ⟨⟨b, rfl, hb⟩, b8⟩; obtain rfl : b = true := hb.2 r2)
  go_ret
  exact ⟨rfl, grows B7.out b8⟩
end Go.Proofs.Ytgilfjojimgpaaa.Qk
