/-
  The reference function Again: a text so many times.
  Conditions: as the theorem says.
-/
import Derived.Test.YtoniejpbgidmfaaWx
import Derived.Test.YtoniejpbgidmfaaBa
import Derived.OwnWalk
namespace Go.Proofs.Ytoniejpbgidmfaa.Wg
open Go.RowKit Go.Proofs.Ytoniejpbgidmfaa.Vm Go.Proofs.Ytoniejpbgidmfaa.Vo Go.Proofs.Ytoniejpbgidmfaa.Bw Go.Proofs.Ytoniejpbgidmfaa.Ba Go.Proofs.Ytoniejpbgidmfaa.Wc Go.Proofs.Ytoniejpbgidmfaa.Ww Go.Proofs.Ytoniejpbgidmfaa.Wx

theorem mul_le {k n z : Nat} (h : k ≤ n) : k * z ≤ n * z := Nat.mul_le_mul_right z h
/-- The row behind an append. -/
theorem byts_more {w w1 wr : World} {base : Nat} {e : TypeId} {v v' : Value} {l : List UInt8} {s : ByteArray} {t : List UInt8} (ht : t = l ++ s.data.toList) (hb : Below base w wr) (hB : base ≤ wr.heap.size) (h : byts wr base e v l) (h1 : w1.ownsRow base e 1 v' (l.length + s.size) (Bs l ++ Lib.strCells s)) (hg : wr.grownBy w1 v.ownBlock) : byts w1 base e v' t ∧ Below base w w1 := by
  have e1 : Bs l ++ Lib.strCells s = Bs t := by rw [ht]; unfold Bs; rw [List.map_append]; rfl
  have e2 : t.length = l.length + s.size := by rw [ht, List.length_append, size_len]
  refine ⟨?_, hb.grown hg hB (fun k hk => (World.ownsRow.lt h k hk).1)⟩
  unfold byts
  rw [e2, ← e1]
  exact h1

set_option maxHeartbeats 1000000 in
set_option maxRecDepth 100000 in
theorem Again_any (s : ByteArray) (n : Nat) (hs : s.size ≤ 100000) (hn : n ≤ 100000) (w : World) :
    Calls Try.prog 10 #[.string s, .int .i64 n] w fun e w' => e = .returned (.string ⟨(Wm.again s.data.toList n).toArray⟩) ∧ Below w.heap.size w w' := by
  obtain ⟨i0, hi, hz0, hz1, hz2⟩ := info_parts info8
  go_enter Try.func10, Try.ntmps10
  go_wp2
  go_loopw [5, 6] (fun s5 s6 wr => ∃ (k : Nat) (A : Option Addr) (m cap : Nat), s6 = .int .i64 k ∧ k ≤ n ∧ s5 = .slice A m cap ∧ m ≤ 10000000000 ∧ Hid (byts wr w.heap.size 5 (.slice A m cap) (Wm.again s.data.toList k)) ∧ Hid (m = k * s.size) ∧ Hid (Below w.heap.size w wr)) (fun _ s6 _ => n - (intOf s6).toNat)
  case atStart => exact ⟨0, none, 0, 0, rfl, Nat.zero_le _, rfl, Nat.zero_le _, Lib.hid (World.ownsRow_nil _ _ _ _), Lib.hid (by simp), Lib.hid (Below.refl _ _)⟩
  case round =>
    obtain ⟨k, A, m, cap, rfl, hk, rfl, hm, HO, HM, HB⟩ := hrel
    have hl : (Wm.again s.data.toList k).length = m := by rw [Wm.again_length, size_len, HM.out]
    have HL := Lib.hid hl
    clear hl
    by_cases hkn : k < n
    · have hO : wr.ownsRow w.heap.size 5 1 (.slice A m cap) m (Bs (Wm.again s.data.toList k)) := by have := HO.out; unfold byts at this; rw [HL.out] at this; exact this
      obtain ⟨X, hX⟩ : ∃ X, X = Wm.again s.data.toList k := ⟨_, rfl⟩
      rw [← hX] at hO
      have HX := Lib.hid hX
      clear hX
      go_wp2_with (at_builtin; refine wpList_str_at _ rfl _ _ 43 9 rfl w.heap.size 5 i0 Try.underlying43 Try.underlying9 hi hz0 hz1 hz2 (.slice A m cap) m (Bs X) rfl hO s rfl ?a3 ?a4 HB.out.size ?_)
      case a3 => unfold maxLen; omega
      case a4 => omega
      intro v2 w2 hown2 hgrow hloc
      obtain ⟨A2, cap2, hv2⟩ : ∃ A2 cap2, v2 = .slice A2 (m + s.size) cap2 := by
        rcases hown2.2 with ⟨rfl, h0⟩ | ⟨b, c, _, rfl, _⟩
        · exact ⟨none, 0, by rw [h0]⟩
        · exact ⟨_, c, rfl⟩
      subst hv2
      rw [HX.out] at hown2
      have HR := Lib.hid (byts_more (t := Wm.again s.data.toList (k + 1)) rfl HB.out HB.out.size HO.out (by rw [HL.out]; exact hown2) hgrow)
      have HM2 : Hid (m + s.size = (k + 1) * s.size) := Lib.hid (by rw [HM.out, Nat.add_mul, Nat.one_mul])
      have hm2 : m + s.size ≤ 10000000000 := by
        rw [HM2.out]
        have h1 := mul_le (z := s.size) (show k + 1 ≤ 100000 by omega)
        omega
      clear hown2 hgrow hloc hO
      go_wp2
      go_roundw
      case rel => exact ⟨k + 1, A2, m + s.size, cap2, by go_num, by omega, rfl, hm2, Lib.hid HR.out.1, HM2, Lib.hid HR.out.2⟩
      case measure => simp [intOf]; omega
    · have hkk : k = n := by omega
      subst hkk
      have hcv := own_string (P := Try.prog) (dst := 9) Try.underlying43 Try.underlying5 Try.underlying9 HO.out
      go_wp2
      go_ret
      exact ⟨rfl, HB.out⟩
end Go.Proofs.Ytoniejpbgidmfaa.Wg
