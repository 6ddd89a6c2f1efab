/-
  PackBack: what is inflated of the blocks that were written is what the parts stand for, and each part is a block.
  Conditions: none.
  The walk of the call.
-/
import Derived.Test.YtnkninjdpgpkmaaGreatDoorBbl
import Derived.Test.YtnkninjdpgpkmaaGreatDoorBbv
import Derived.Test.YtnkninjdpgpkmaaGreatDoorBav
import Derived.Test.YtnkninjdpgpkmaaGreatDoorBbw
import Derived.Test.YtnkninjdpgpkmaaGreatDoorBbx
import Derived.Test.YtnkninjdpgpkmaaGreatDoorBal
namespace Go.Proofs.YtnkninjdpgpkmaaGreatDoor.packBack
open Go.RowKit
open Go.Proofs.YtnkninjdpgpkmaaGreatDoor.Bm Go.Proofs.YtnkninjdpgpkmaaGreatDoor.Bw Go.Proofs.YtnkninjdpgpkmaaGreatDoor.Na Go.Proofs.YtnkninjdpgpkmaaGreatDoor.Ky Go.Proofs.YtnkninjdpgpkmaaGreatDoor.Kw Go.Proofs.YtnkninjdpgpkmaaGreatDoor.Fm Go.Proofs.YtnkninjdpgpkmaaGreatDoor.Gm Go.Proofs.YtnkninjdpgpkmaaGreatDoor.Ga Go.Proofs.YtnkninjdpgpkmaaGreatDoor.Gp Go.Proofs.YtnkninjdpgpkmaaGreatDoor.Gt Go.Proofs.YtnkninjdpgpkmaaGreatDoor.Gz Go.Proofs.YtnkninjdpgpkmaaGreatDoor.Hf Go.Proofs.YtnkninjdpgpkmaaGreatDoor.Hg Go.Proofs.YtnkninjdpgpkmaaGreatDoor.Im Go.Proofs.YtnkninjdpgpkmaaGreatDoor.Ib Go.Proofs.YtnkninjdpgpkmaaGreatDoor.Ik Go.Proofs.YtnkninjdpgpkmaaGreatDoor.In

theorem encPs_bl : ∀ (l : List Pz) (b : List UInt8) (z : Nat), okPs b (l.map Pz.pt) → bl (encPs (l.map Pz.pt) z) ≤ ptsB l
  | [], b, z, _ => Nat.le_refl _
  | p :: r, b, z, h => by
    rw [List.map_cons, encPs_cons, bl_append]
    have h1 := encP_bl h.1 (r.map Pz.pt).isEmpty z
    have h2 := encPs_bl r _ (z + bl (encP p.pt (r.map Pz.pt).isEmpty z)) h.2
    simp only [ptsB]
    omega
theorem opsC_ge : ∀ os : List Opi, os.length ≤ opsC os
  | [] => Nat.le_refl _
  | o :: r => by have := opsC_ge r; simp only [opsC, List.length_cons]; unfold opC; omega
theorem ptsB_le : ∀ l : List Pz, ptsB l ≤ 1415 * l.length + 48 * ptsC l
  | [] => Nat.le_refl _
  | p :: r => by
    have h1 := ptsB_le r
    have h2 := opsC_ge p.os
    have h3 : p.pt.ops.length = p.os.length := by show (p.os.map Opi.nat).length = _; rw [List.length_map]
    simp only [ptsB, ptsC, List.length_cons]
    unfold ptB opsB ptC
    rw [h3]
    omega
theorem enc_ok {l : List Pz} (h : encE l = 0) : l ≠ [] ∧ (ptsT [] l).1 = 0 ∧ ptsE l = 0 ∧ textM l = ptsT [] l := by
  have h1 : (textM l).1 = 0 := by
    by_cases h0 : (textM l).1 = 0
    · exact h0
    · unfold encE at h; rw [if_pos h0] at h; exact h
  have h2 : l ≠ [] := fun e => by rw [e, textM_nil] at h1; cases h1
  rw [textM_cons h2] at h1
  have h3 : (ptsT [] l).1 = 0 := by
    by_cases h0 : (ptsT [] l).1 = 0
    · exact h0
    · rw [if_neg h0] at h1; exact h1
  have h4 : textM l = ptsT [] l := by rw [textM_cons h2, if_pos h3]
  refine ⟨h2, h3, ?_, h4⟩
  unfold encE at h
  rw [h4, if_neg (fun e => e h3)] at h
  exact h
theorem backs {l : List Pz} {S : ByteArray} (hf : fewIs l) (h : encE l = 0) (hS : encS l S) :
    limM (num S.data.toList) S.size 0 [] ∧ (tot S 0 []).1 = 0 ∧ (tot S 0 []).2.1.length = l.length ∧ (tot S 0 []).2.2.1 ≤ 8 * S.size ∧ 8 * S.size < (tot S 0 []).2.2.1 + 8 ∧ (⟨(tot S 0 []).2.2.2.toArray⟩ : ByteArray) = ⟨(textM l).2.toArray⟩ ∧ (textM l).1 = 0 ∧ S.size ≤ 1000000 := by
  obtain ⟨hn, h1, h2, h3⟩ := enc_ok h
  have hH := hS.2 h
  have hb := encPs_bl l [] 0 (parts_ok l [] h1 h2).1
  have hb2 := ptsB_le l
  obtain ⟨f1, f2, f3⟩ := hf
  have hz := hH.2
  obtain ⟨a1, a2, a3, a4⟩ := all_of hn h1 h2 hH
  have ht := ptsT_len l []
  have hS6 : S.size ≤ 1000000 := by omega
  rw [h3]
  refine ⟨⟨hS6, ?_, ?_⟩, a1, a2, ?_, ?_, ?_, h1, hS6⟩
  · rw [a4]; simp at ht; omega
  · rw [a2]; omega
  · show (allM (num S.data.toList) (8 * S.size) 0 [] 0).2.2.1 ≤ _; rw [a3]; omega
  · show _ < (allM (num S.data.toList) (8 * S.size) 0 [] 0).2.2.1 + 8; rw [a3]; omega
  · show (⟨(allM (num S.data.toList) (8 * S.size) 0 [] 0).2.2.2.toArray⟩ : ByteArray) = _
    rw [a4]

set_option maxHeartbeats 2000000 in
set_option maxRecDepth 100000 in
theorem walk (A : Option Addr) (cp : Nat) (l : List Pz) (w : World) (h : ptr w A l) (hO : ordM w) :
    Calls Tryz.prog 5 #[.slice A l.length cp] w fun e w' => e = .returned (.bool true) ∧ Below w.heap.size w w' := by
  have HK := Lib.hid (fun u (h : ordM u) => Ht.known_any (w := u) h)
  have HO := Lib.hid hO
  have HF := Lib.hid (few_any (cp := cp) h)
  have H := Lib.hid h
  obtain ⟨N, hN⟩ : ∃ N, N = l.length := ⟨_, rfl⟩
  rw [← hN] at HF ⊢
  have HN := Lib.hid hN
  clear h hO hN
  go_enter Tryz.func5, Tryz.ntmps5
  go_wp2_with fail
  refine HF.out.mono ?_
  rintro e w' ⟨b, rfl, hb, rfl⟩
  cases b
  · clear hb HF
    go_wp2_with fail
    refine (HK.out _ HO.out).mono ?_
    rintro e w5 ⟨rfl, b5⟩
    go_wp2
    go_ret
    exact ⟨rfl, b5⟩
  · have HFW := Lib.hid (hb rfl)
    clear hb HF
    have HG1 := Lib.hid (given_any (cp := cp) H.out (by have := HFW.out.1; omega))
    rw [← HN.out] at HG1
    go_wp2_with fail
    refine HG1.out.mono ?_
    rintro e w1 ⟨A1, c1, rfl, hp1, b1⟩
    have HP1 := Lib.hid hp1
    have B1 := Lib.hid b1
    have HTX := Lib.hid (Text_any (c := c1) hp1 (by have := HFW.out.2.2; omega) (by have := HFW.out.1; omega) (fun p hp => by have := (HFW.out.2.1 p hp).2.1; omega))
    rw [← HN.out] at HTX
    clear hp1 b1 HG1
    go_wp2_with fail
    refine HTX.out.mono ?_
    rintro e w2 ⟨rfl, b2⟩
    have B2 := Lib.hid (grows B1.out b2)
    have HG2 := Lib.hid (given_any (cp := cp) (H.out.below B2.out) (by have := HFW.out.1; omega))
    rw [← HN.out] at HG2
    obtain ⟨tt, htt⟩ : ∃ tt : ByteArray, tt = ⟨(textM l).2.toArray⟩ := ⟨_, rfl⟩
    obtain ⟨te, hte⟩ : ∃ te, te = (textM l).1 := ⟨_, rfl⟩
    have HTT := Lib.hid htt
    have HTE := Lib.hid hte
    rw [← htt, ← hte]
    clear htt hte b2 HTX
    go_wp2_with fail
    refine HG2.out.mono ?_
    rintro e w3 ⟨A3, c3, rfl, hp3, b3⟩
    have B3 := Lib.hid (grows B2.out b3)
    have HEC := Lib.hid (Encode_any (c := c3) hp3 (HO.out.below B3.out) (by have := HFW.out.2.2; omega) (by have := HFW.out.1; omega) (fun p hp => by have := (HFW.out.2.1 p hp).2.1; omega) (by have h1 := HFW.out.2.2; have h2 := HFW.out.1; have h3 := ptsB_le l; omega))
    rw [← HN.out] at HEC
    clear hp3 b3 HG2
    go_wp2_with fail
    refine HEC.out.mono ?_
    rintro e w4 ⟨S, rfl, hS, b4⟩
    have B4 := Lib.hid (grows B3.out b4)
    have HS := Lib.hid hS
    obtain ⟨ec, hec⟩ : ∃ ec, ec = encE l := ⟨_, rfl⟩
    have HEE := Lib.hid hec
    rw [← hec]
    clear hS b4 HEC hec
    by_cases he : ec = 0
    · have HBK := Lib.hid (backs HFW.out (by rw [← HEE.out]; exact he) HS.out)
      have HAL := Lib.hid (all_lim S 0 ⟨#[]⟩ w4 (HO.out.below B4.out) HBK.out.1 (Nat.zero_le _) (by decide))
      subst he
      have hte0 : te = 0 := by rw [HTE.out]; exact HBK.out.2.2.2.2.2.2.1
      subst hte0
      go_wp2_with fail
      refine HAL.out.mono ?_
      rintro e w5 ⟨b5, hc⟩
      have hl : Wm.lastN 32768 (⟨#[]⟩ : ByteArray).data.toList = [] := rfl
      rw [hl] at hc
      rcases hc with ⟨h0, _⟩ | ⟨_, v', he, hv'⟩
      · exact absurd HBK.out.2.1 h0
      · have hxt : (⟨(tot S 0 []).2.2.2.toArray⟩ : ByteArray) = tt := by rw [HBK.out.2.2.2.2.2.1, HTT.out]
        rw [hxt] at he
        subst he
        obtain ⟨A5, c5, hv5, _⟩ := hv'.form
        rw [HBK.out.2.2.1, ← HN.out] at hv5
        subst hv5
        obtain ⟨E4, hE4⟩ : ∃ E4 : Nat, E4 = (tot S 0 []).2.2.1 := ⟨_, rfl⟩
        have hle := HBK.out.2.2.2.1
        have hgt := HBK.out.2.2.2.2.1
        have hsz := HBK.out.2.2.2.2.2.2.2
        rw [← hE4] at hle hgt ⊢
        have q1 : (E4 : Int) ≤ 8 * (S.size : Int) := by omega
        have q2 : 8 * (S.size : Int) - 8 < (E4 : Int) := by omega
        have q3 : IntKind.i64.wrap (8 * (S.size : Int)) = 8 * (S.size : Int) := by rw [IntKind.wrap_i64]; omega
        have q4 : IntKind.i64.wrap (8 * (S.size : Int) - 8) = 8 * (S.size : Int) - 8 := by rw [IntKind.wrap_i64]; omega
        have B5 := Lib.hid (grows B4.out b5)
        clear hE4 hv' b5 hl HAL hxt hle hgt
        go_wp2_with fail
        refine (HK.out _ (HO.out.below B5.out)).mono ?_
        rintro e w6 ⟨rfl, b6⟩
        go_wp2
        go_ret
        exact ⟨rfl, grows B5.out b6⟩
    · have heb : (ec != 0) = true := by simp [he]
      obtain rfl : S = ⟨#[]⟩ := HS.out.1 (by rw [← HEE.out]; exact he)
      clear he
      go_wp2_with fail
      refine (HK.out _ (HO.out.below B4.out)).mono ?_
      rintro e w6 ⟨rfl, b6⟩
      go_wp2
      go_ret
      exact ⟨rfl, grows B4.out b6⟩
end Go.Proofs.YtnkninjdpgpkmaaGreatDoor.packBack
