/-
  The walk of collimatorlaw12.GzheadOnly.
-/
import Derived.Test.YtgilfjojimgpaaaQw
namespace Go.Proofs.Ytgilfjojimgpaaa.gzheadOnly
open Go.RowKit
open Go.Proofs.Ytgilfjojimgpaaa.Vm Go.Proofs.Ytgilfjojimgpaaa.Vo Go.Proofs.Ytgilfjojimgpaaa.Vf Go.Proofs.Ytgilfjojimgpaaa.Bw Go.Proofs.Ytgilfjojimgpaaa.Bm Go.Proofs.Ytgilfjojimgpaaa.Qm Go.Proofs.Ytgilfjojimgpaaa.Qa Go.Proofs.Ytgilfjojimgpaaa.Qb Go.Proofs.Ytgilfjojimgpaaa.Qc Go.Proofs.Ytgilfjojimgpaaa.Qd Go.Proofs.Ytgilfjojimgpaaa.Qf Go.Proofs.Ytgilfjojimgpaaa.Qg Go.Proofs.Ytgilfjojimgpaaa.Qn Go.Proofs.Ytgilfjojimgpaaa.Qk Go.Proofs.Ytgilfjojimgpaaa.Qw

set_option maxHeartbeats 4000000 in
set_option maxRecDepth 100000 in
theorem walk (s : ByteArray) (hs : s.size ≤ maxLen) (w : World) :
    Calls Try.prog 6 #[.string s] w fun e' w' => e' = .returned (.bool true) ∧ Below w.heap.size w w' := by
  have hs' : s.size ≤ 9223372036854775807 := hs
  by_cases hl : (70000 : Int) < (s.size : Int)
  · go_enter Try.func6, Try.ntmps6
    go_wp2_with (go_at_call 8; refine (known_any _).mono ?_; rintro e' w3 ⟨rfl, b3⟩)
    go_ret
    exact ⟨rfl, b3⟩
  · have HP := Lib.hid (Parse_any s 0 w (by omega) (by omega) (by omega))
    have hs7 : s.size ≤ 70000 := by omega
    go_enter Try.func6, Try.ntmps6
    go_wp2_with fail
    refine HP.out.mono ?_
    rintro e' w2 ⟨⟨t, e, n, c, v, o, x, m, f, z, er, rfl, hp⟩, b2⟩
    have K2 : Hid (Blk (w2.alloc (.cells (cs9 t e n c v o x m f) 23)) w2.heap.size 23 (cs9 t e n c v o x m f)) := Lib.hid (Blk.fresh w2 _ _)
    have B2 : Hid (Below w.heap.size w (w2.alloc (.cells (cs9 t e n c v o x m f) 23))) := Lib.hid (b2.alloc b2.size _)
    clear b2 HP
    by_cases he : er = 0
    · subst he
      obtain ⟨k, hk, hz⟩ := ps_at (p := 0) hp
      rw [if_pos rfl, Nat.zero_add] at hz
      obtain ⟨hr, he1, hk1, hk2⟩ := prs_only hk
      rw [List.drop_zero] at he1 hk2
      have hge := enc_ge hr
      rw [Qh.len_eq] at hk2
      have hel : (encQ crl (hq t e n c v o x m f)).length = k := by rw [he1, List.length_take, Qh.len_eq]; omega
      have hnl : n.size ≤ 70000 := by have := hge.1; rw [hel] at this; have h2 : n.data.toList.length ≤ k := this; rw [Qh.len_eq] at h2; omega
      have hcl : c.size ≤ 70000 := by have := hge.2.1; rw [hel] at this; have h2 : c.data.toList.length ≤ k := this; rw [Qh.len_eq] at h2; omega
      have hfb : 0 ≤ f ∧ f ≤ 28 := ⟨hr.2.2.2.1.1, hr.2.2.2.1.2.1⟩
      have HB := Lib.hid (Build_yes t e n c v o x m f · (by omega) (by omega) hr)
      have HR := Lib.hid (Right_is (t := t) (e := e) (n := n) (c := c) (v := v) (o := o) (x := x) (m := m) (f := f) (β := true) ⟨fun _ => hr, fun _ => rfl⟩ (by omega) (by omega))
      have hS : (⟨(encQ crl (hq t e n c v o x m f)).toArray⟩ : ByteArray) = s.extract 0 k := by
        rw [he1]; exact (str_list (extract_zero s k)).symm
      rw [hS] at HB
      have hsl := cut_low (S := s) hk2
      generalize s.extract 0 k = S at *
      have hz1 : (10 : Int) ≤ (k : Int) := by omega
      have hz2 : (k : Int) ≤ (s.size : Int) := by omega
      subst hz
      clear hp hk hr he1 hge hel hnl hcl hfb hS hk1 hk2
      obtain ⟨n0, n1, n2, n3, n4, n5, n6, n7, n8⟩ := nine K2.out
      go_wp2_with fail
      clear n0 n1 n2 n3 n4 n5 n6 n7 n8
      refine (HB.out _).mono ?_
      rintro e' w3 ⟨rfl, b3⟩
      have K3 := K2.out.below b3
      have B3 := Lib.hid (B2.out.trans (b3.mono B2.out.size))
      clear b3 K2 B2
      obtain ⟨n0, n1, n2, n3, n4, n5, n6, n7, n8⟩ := nine K3
      clear K3
      go_wp2_with (first | (go_at_call 11; refine (HR.out _).mono ?_; rintro e' w4 ⟨rfl, b4⟩) | (go_at_call 8; refine (known_any _).mono ?_; rintro e' w5 ⟨rfl, b5⟩))
      go_ret
      exact ⟨rfl, grows (grows B3.out b4) b5⟩
    · obtain ⟨hq0, hz0⟩ := ps_err (p := 0) hp he
      obtain ⟨rfl, rfl, rfl, rfl, rfl, rfl, rfl, rfl, rfl⟩ := hq_zero hq0
      subst hz0
      have hne : (er != 0) = true := by simpa using he
      clear hp he hq0
      obtain ⟨n0, n1, n2, n3, n4, n5, n6, n7, n8⟩ := nine K2.out
      go_wp2_with (go_at_call 8; refine (known_any _).mono ?_; rintro e' w3 ⟨rfl, b3⟩)
      go_ret
      exact ⟨rfl, B2.out.trans (b3.mono B2.out.size)⟩
end Go.Proofs.Ytgilfjojimgpaaa.gzheadOnly
