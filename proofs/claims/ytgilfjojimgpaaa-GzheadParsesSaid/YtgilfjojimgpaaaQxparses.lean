/-
  The walk of collimatorlaw12.GzheadParses.
-/
import Derived.Test.YtgilfjojimgpaaaQk
import Derived.Test.YtgilfjojimgpaaaQr
namespace Go.Proofs.Ytgilfjojimgpaaa.gzheadParses
open Go.RowKit
open Go.Proofs.Ytgilfjojimgpaaa.Vm Go.Proofs.Ytgilfjojimgpaaa.Vo Go.Proofs.Ytgilfjojimgpaaa.Vf Go.Proofs.Ytgilfjojimgpaaa.Bw Go.Proofs.Ytgilfjojimgpaaa.Bm Go.Proofs.Ytgilfjojimgpaaa.Qm Go.Proofs.Ytgilfjojimgpaaa.Qa Go.Proofs.Ytgilfjojimgpaaa.Qb Go.Proofs.Ytgilfjojimgpaaa.Qc Go.Proofs.Ytgilfjojimgpaaa.Qd Go.Proofs.Ytgilfjojimgpaaa.Qn Go.Proofs.Ytgilfjojimgpaaa.Qk Go.Proofs.Ytgilfjojimgpaaa.Qr

theorem rParse_any (s : ByteArray) (a : Int) (w : World) (hs : s.size ≤ 281474976710656) (h0 : -9223372036854775808 ≤ a) (h1 : a ≤ 9223372036854775807) :
    Calls Try.prog 14 #[.string s, .int .i64 a] w (psA s.data.toList a w) := by
  by_cases h : (Ql.bgR s.data.toList a).2 = 0
  · exact rParse_yes s a w hs h
  · exact Qp.rParse_no s a w hs h0 h1 h
theorem str_inj {a b : ByteArray} (h : a.data.toList = b.data.toList) : a = b := (str_list h).trans (str_list rfl).symm
theorem hq_inj {t t' : Int} {e n c e' n' c' : ByteArray} {v o v' o' : Int} {x m x' m' : Bool} {f f' : Int} (h : hq t e n c v o x m f = hq t' e' n' c' v' o' x' m' f') : t = t' ∧ e = e' ∧ n = n' ∧ c = c' ∧ v = v' ∧ o = o' ∧ x = x' ∧ m = m' ∧ f = f' := by
  unfold hq at h
  injection h with f1 f2 f3 f4 f5 f6 f7 f8 f9
  exact ⟨f1, str_inj f2, str_inj f3, str_inj f4, f5, f6, f7, f8, f9⟩
/-- Both say the same. -/
theorem ps_same {l : List UInt8} {a : Int} {q q' : Hq} {z z' er er' : Int} (h : psR l a q z er) (h' : psR l a q' z' er') : q = q' ∧ z = z' ∧ er = er' := by
  rcases h with ⟨a1, a2, a3, a4⟩ | ⟨p, k, a1, a2, a3⟩
  · rcases h' with ⟨_, b2, b3, b4⟩ | ⟨p', k', b1, _, _⟩
    · exact ⟨a2.trans b2.symm, a3.trans b3.symm, a4.trans b4.symm⟩
    · omega
  · rcases h' with ⟨b1, _, _, _⟩ | ⟨p', k', b1, b2, b3⟩
    · omega
    · obtain rfl : p = p' := by omega
      rw [a2] at b2
      have e1 : er = er' := congrArg Prod.fst b2
      have e2 : q = q' := congrArg (fun y => y.2.1) b2
      have e3 : k = k' := congrArg (fun y => y.2.2) b2
      exact ⟨e2, by rw [a3, b3, e1, e3], e1⟩

set_option maxHeartbeats 4000000 in
set_option maxRecDepth 100000 in
theorem walk (s : ByteArray) (a : Int) (hs : s.size ≤ maxLen) (ha : (Lit.int .i64 a).wf = true) (w : World) :
    Calls Try.prog 4 #[.string s, .int .i64 a] w fun e' w' => e' = .returned (.bool true) ∧ Below w.heap.size w w' := by
  have hs' : s.size ≤ 9223372036854775807 := hs
  have hab : -9223372036854775808 ≤ a ∧ a ≤ 9223372036854775807 := by simpa [Lit.wf, IntKind.min, IntKind.max, IntKind.signed, IntKind.bits] using ha
  clear ha hs
  by_cases hl : (70000 : Int) < (s.size : Int)
  · clear hab
    go_enter Try.func4, Try.ntmps4
    go_wp2_with (go_at_call 8; refine (known_any _).mono ?_; rintro e' w3 ⟨rfl, b3⟩)
    go_ret
    exact ⟨rfl, b3⟩
  · have HP := Lib.hid (Parse_any s a w (by omega) hab.1 hab.2)
    have HR := Lib.hid (rParse_any s a · (by omega) hab.1 hab.2)
    clear hab
    go_enter Try.func4, Try.ntmps4
    go_wp2_with fail
    refine HP.out.mono ?_
    rintro e' w2 ⟨⟨t, e, n, c, v, o, x, m, f, z, er, rfl, hp⟩, b2⟩
    obtain ⟨w3, hw3⟩ : ∃ w3, w3 = w2.alloc (.cells (cs9 t e n c v o x m f) 23) := ⟨_, rfl⟩
    have K3 : Hid (Blk w3 w2.heap.size 23 (cs9 t e n c v o x m f)) := Lib.hid (by rw [hw3]; exact Blk.fresh w2 _ _)
    have B3 : Hid (Below w.heap.size w w3) := Lib.hid (by rw [hw3]; exact b2.alloc b2.size _)
    have HPP := Lib.hid hp
    clear b2 HP hp
    go_wp2_with fail
    rw [← hw3]
    clear hw3
    refine (HR.out w3).mono ?_
    rintro e' w4 ⟨⟨t', e'', n', c', v', o', x', m', f', z', er', rfl, hp'⟩, b4⟩
    obtain ⟨hq1, rfl, rfl⟩ := ps_same HPP.out hp'
    obtain ⟨rfl, rfl, rfl, rfl, rfl, rfl, rfl, rfl, rfl⟩ := hq_inj hq1
    have K4 := Lib.hid (K3.out.below b4)
    have B4 := Lib.hid (B3.out.trans (b4.mono B3.out.size))
    clear b4 K3 B3 hp' hq1 HPP
    have K5 : Hid (Blk (w4.alloc (.cells (cs9 t e n c v o x m f) 23)) w4.heap.size 23 (cs9 t e n c v o x m f)) := Lib.hid (Blk.fresh w4 _ _)
    have K6 : Hid (Blk (w4.alloc (.cells (cs9 t e n c v o x m f) 23)) w2.heap.size 23 (cs9 t e n c v o x m f)) := Lib.hid (K4.out.below ((Below.refl _ w4).alloc (Nat.le_refl _) _))
    have B5 : Hid (Below w.heap.size w (w4.alloc (.cells (cs9 t e n c v o x m f) 23))) := Lib.hid (B4.out.alloc B4.out.size _)
    clear K4
    obtain ⟨n0, n1, n2, n3, n4, n5, n6, n7, n8⟩ := nine K6.out
    obtain ⟨r0, r1, r2, r3, r4, r5, r6, r7, r8⟩ := nine K5.out
    go_wp2_with (go_at_call 8; refine (known_any _).mono ?_; rintro e' w7 ⟨rfl, b7⟩)
    go_ret
    exact ⟨rfl, B5.out.trans (b7.mono B5.out.size)⟩
end Go.Proofs.Ytgilfjojimgpaaa.gzheadParses
