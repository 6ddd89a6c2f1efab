/-
  window: the method that reads bytes out of the ring.
  Conditions: as each theorem says.
-/
import Derived.Test.YtoniejpbgidmfaaWx
namespace Go.Proofs.Ytoniejpbgidmfaa.Wq
open Go.RowKit Go.Proofs.Ytoniejpbgidmfaa.Vm Go.Proofs.Ytoniejpbgidmfaa.Bw Go.Proofs.Ytoniejpbgidmfaa.Br Go.Proofs.Ytoniejpbgidmfaa.Wr Go.Proofs.Ytoniejpbgidmfaa.Wc Go.Proofs.Ytoniejpbgidmfaa.Ww Go.Proofs.Ytoniejpbgidmfaa.Wx

theorem splice_two {α : Type} (L a b : List α) : splice (splice L 0 a) a.length b = splice L 0 (a ++ b) := by
  have e : a ++ L.drop a.length = splice L 0 a := by unfold splice; rw [List.take_zero, List.nil_append, Nat.zero_add]
  have e2 : a.drop (a.length + b.length) = [] := List.drop_eq_nil_of_le (by omega)
  rw [← e]
  unfold splice
  rw [List.take_append_of_le_length (Nat.le_refl _), List.take_length, List.take_zero, List.nil_append, List.drop_append, e2, List.nil_append, List.drop_drop, List.length_append]
  rw [show a.length + (a.length + b.length - a.length) = 0 + (a.length + b.length) by omega, List.append_assoc]

theorem at_int {x n d a : Nat} (hx : x < 32768) (hn : n ≤ 32768) (hd : d ≤ n) (ha : a = (x + n - d) % 32768) : (IntKind.i64.wrap (IntKind.i64.wrap ((x : Int) + (n : Int)) - (d : Int))).tmod 32768 = (a : Int) := by
  rw [IntWalk.i64_in ((x : Int) + (n : Int)) (by omega), IntWalk.i64_in _ (by omega), show (x : Int) + (n : Int) - (d : Int) = ((x + n - d : Nat) : Int) by omega, ha]
  rfl

set_option maxHeartbeats 1000000 in
set_option maxRecDepth 100000 in
theorem read_any {base base2 : Nat} {w : World} {g : Nat} {v u : Value} {l B : List UInt8} {x : Nat} (h : win base w g v l x) {b k oc d : Nat} (hB : byts w base2 5 u B) (hu : u.ownBlock = some b) (hv : v.ownBlock ≠ some b) (hk : k ≤ B.length) (hkc : k ≤ oc) (hkd : k ≤ d) (hd : d ≤ l.length) :
    Calls Try.prog 22 #[.pointer (some ⟨g, 0, none⟩), .slice (some ⟨b, 0, none⟩) k oc, .int .i64 d] w fun e w' => e = .returned (.tuple #[]) ∧ byts w' base2 5 u (splice B 0 ((Wm.lastN d (cont l x)).take k)) ∧ Only (of u) w w' := by
  have c1 := h.b.c1
  have c2 := h.b.c2
  obtain ⟨A, cap, hv'⟩ := h.o.form
  subst hv'
  have hxm := h.r.lt
  have hle := h.r.le
  have hcap := cap_le h.o rfl
  have hug := Lib.hid (h.b.apart hB)
  have hat := atX_le h.r hd
  have HR := Lib.hid (read_ring h.r hd hkd)
  obtain ⟨a, ha⟩ : ∃ a, a = atX 32768 l x d := ⟨_, rfl⟩
  rw [← ha] at hat HR
  have hae : a = (x + l.length - d) % 32768 := ha
  obtain ⟨n, hn⟩ : ∃ n, n = l.length := ⟨_, rfl⟩
  have HN := Lib.hid hn
  rw [← hn] at c1 h hcap hd hle hat hae hv
  have hai := Lib.hid (at_int hxm hle hd hae)
  clear hn ha hae
  obtain ⟨A', hcut, hA'⟩ := cut_low (A := A) (cap := cap) hat
  have HA := Lib.hid hA'
  have H := Lib.hid h
  have HB := Lib.hid hB
  have HU := Lib.hid hu
  have HV := Lib.hid hv
  have H1 : 0 < n → ∃ gg, A = some ⟨gg, 0, none⟩ := fun h0 => by
    obtain ⟨gg, cap', e, _⟩ := H.out.o.block (by rw [← HN.out]; exact h0)
    injection e with e _ _
    exact ⟨gg, e⟩
  have HG := Lib.hid H1
  clear h hA' H1 hB hu hv
  obtain ⟨n1, hn1⟩ : ∃ n1, n1 = min (n - a) k := ⟨_, rfl⟩
  have HK := Lib.hid hn1
  have hn1k : n1 ≤ k := by omega
  clear hn1
  obtain ⟨O', hcut2, hO'⟩ := cut_low (A := some ⟨b, 0, none⟩) (cap := oc) hn1k
  have HO := Lib.hid hO'
  clear hO'
  go_enter Try.func22, Try.ntmps22
  go_wp2_with fail
  go_still_tail 13, (by kernel_rfl)
  rw [hai.out]
  clear hai
  have HAT := Lib.hid hat
  clear hat
  go_wp2_with (first | (refine wpList_cut rfl (.tmp 25) (.tmp 26) rfl (.slice A n cap) (.int .i64 a) (.slice A' (n - a) (cap - a)) rfl rfl hcut ?_) | refine wpList_copy_sl rfl (.tmp 21) (.tmp 27) 43 43 rfl 5 Try.underlying43 size8 (some ⟨b, 0, none⟩) A' k oc (n - a) (cap - a) rfl rfl n1 HK.out base2 u B HB.out 0 ((l.drop a).take n1) ?p0 ?p1 ?p2 ?_)
  case p0 => rw [List.length_take, List.length_drop, ← HN.out]; have := HK.out; omega
  case p1 =>
    intro h0
    have := HK.out
    have := HAT.out
    obtain ⟨gg, hgg⟩ := HG.out (by omega)
    refine ⟨⟨b, HU.out, rfl⟩, gg, a, HA.out gg hgg (by omega), fun j hj => ?_⟩
    have e : w.drew.cell? ⟨gg, a + j, none⟩ = l[a + j]?.map Vm.B := byts.cell (cap := cap) (by rw [← hgg]; exact H.out.o) HN.out (a + j) (by omega)
    rw [List.getElem?_take, if_pos hj, List.getElem?_drop]
    exact e
  case p2 => omega
  intro w1 B1 O1
  have b1 : win base w1 g (.slice A n cap) l x := win.only (w := w.drew) (S := of u) ⟨H.out.b, H.out.o, H.out.r, H.out.g0⟩ O1.out (fun i hi e => by
    rcases hi with rfl | hi
    · exact hug.out _ e rfl
    · have e' : u.ownBlock = some i := e
      rw [HU.out] at e'
      exact HV.out (by rw [e']; exact hi))
  have W1 := Lib.hid b1
  have k1 := b1.b.c1
  clear c1 c2 hcut b1
  go_wp2_with fail
  go_still_tail 7, (by kernel_rfl)
  change wpList _ _ _ _ _ w1.drew
  obtain ⟨L1, hL1⟩ : ∃ L1, L1 = splice B 0 ((l.drop a).take n1) := ⟨_, rfl⟩
  have HL := Lib.hid hL1
  rw [← hL1] at B1
  clear hL1
  have hl1 : ((l.drop a).take n1).length = n1 := by
    rw [List.length_take, List.length_drop, ← HN.out]; have := HK.out; omega
  have HLA := Lib.hid hl1
  have HLL : Hid (L1.length = B.length) := Lib.hid (by rw [HL.out, splice_len]; rw [hl1]; omega)
  clear hl1
  refine wpList_copy_sl rfl (.tmp 31) (.tmp 35) 43 43 rfl 5 Try.underlying43 size8 O' A (k - n1) (oc - n1) n cap rfl rfl (k - n1) ?q0 base2 u L1 B1.out n1 (l.take (k - n1)) ?q1 ?q2 ?q3 ?_
  case q0 => have := HK.out; omega
  case q1 => rw [List.length_take, ← HN.out]; omega
  case q2 =>
    intro h0
    obtain ⟨gg, hgg⟩ := HG.out (by omega)
    refine ⟨⟨b, HU.out, HO.out b rfl (by omega)⟩, gg, 0, hgg, fun j hj => ?_⟩
    have e : w1.drew.cell? ⟨gg, j, none⟩ = l[j]?.map Vm.B := byts.cell (cap := cap) (by rw [← hgg]; exact W1.out.o) HN.out j (by omega)
    rw [List.getElem?_take, if_pos hj, Nat.zero_add]
    exact e
  case q3 => rw [HLL.out]; omega
  intro w2 B2 O2
  clear k1
  go_wp2
  go_end0
  refine ⟨rfl, ?_, (undrew O1.out).trans (undrew O2.out)⟩
  have e : splice L1 n1 (l.take (k - n1)) = splice B 0 ((Wm.lastN d (cont l x)).take k) := by
    have e1 := splice_two B ((l.drop a).take n1) (l.take (k - n1))
    rw [HLA.out] at e1
    have e2 := HR.out
    have e3 : min k (l.length - a) = n1 := by have := HK.out; rw [← HN.out]; omega
    rw [e3] at e2
    rw [HL.out, e1, e2]
  rw [← e]
  exact B2.out
end Go.Proofs.Ytoniejpbgidmfaa.Wq
