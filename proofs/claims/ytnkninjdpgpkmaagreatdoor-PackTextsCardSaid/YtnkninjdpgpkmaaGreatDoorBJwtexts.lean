/-
  PackTexts: the text of any parts, and their bytes, are as the reference says, or what is wrong.
  Conditions: none.
  The walk of the call.
-/
import Derived.Test.YtnkninjdpgpkmaaGreatDoorBbl
import Derived.Test.YtnkninjdpgpkmaaGreatDoorBav
import Derived.Test.YtnkninjdpgpkmaaGreatDoorBbw
import Derived.Test.YtnkninjdpgpkmaaGreatDoorBcg
import Derived.Test.YtnkninjdpgpkmaaGreatDoorBbx
import Derived.Test.YtnkninjdpgpkmaaGreatDoorBal
namespace Go.Proofs.YtnkninjdpgpkmaaGreatDoor.packTexts
open Go.RowKit
open Go.Proofs.YtnkninjdpgpkmaaGreatDoor.Bm Go.Proofs.YtnkninjdpgpkmaaGreatDoor.Bw Go.Proofs.YtnkninjdpgpkmaaGreatDoor.Na Go.Proofs.YtnkninjdpgpkmaaGreatDoor.Ky Go.Proofs.YtnkninjdpgpkmaaGreatDoor.Kw Go.Proofs.YtnkninjdpgpkmaaGreatDoor.Gm Go.Proofs.YtnkninjdpgpkmaaGreatDoor.Ga Go.Proofs.YtnkninjdpgpkmaaGreatDoor.Gp Go.Proofs.YtnkninjdpgpkmaaGreatDoor.Gt Go.Proofs.YtnkninjdpgpkmaaGreatDoor.Gz Go.Proofs.YtnkninjdpgpkmaaGreatDoor.Hf Go.Proofs.YtnkninjdpgpkmaaGreatDoor.Hg Go.Proofs.YtnkninjdpgpkmaaGreatDoor.Hr Go.Proofs.YtnkninjdpgpkmaaGreatDoor.Hw

theorem opsC_ge : ∀ os : List Opi, os.length ≤ opsC os
  | [] => Nat.le_refl _
  | o :: r => by have := opsC_ge r; simp only [opsC, List.length_cons]; unfold opC; omega
theorem ptsB_le : ∀ l : List Pz, ptsB l ≤ 1415 * l.length + 48 * ptsC l
  | [] => Nat.le_refl _
  | p :: r => by
    have h1 := ptsB_le r
    have h2 := opsC_ge p.os
    have h3 : p.pt.ops.length = p.os.length := by show (p.os.map Opi.nat).length = _; rw [List.length_map]
    simp only [ptsB, ptsC, List.length_cons]
    unfold ptB opsB ptC
    rw [h3]
    omega
theorem enc_same {l : List Pz} {S T : ByteArray} (h : encS l S) (k : encS l T) : S = T := by
  by_cases e : encE l = 0
  · exact holds_inj (h.2 e) (k.2 e)
  · rw [h.1 e, k.1 e]

set_option maxHeartbeats 2000000 in
set_option maxRecDepth 100000 in
theorem walk (A : Option Addr) (cp : Nat) (l : List Pz) (w : World) (h : ptr w A l) (hO : ordM w) :
    Calls Tryz.prog 4 #[.slice A l.length cp] w fun e w' => e = .returned (.bool true) ∧ Below w.heap.size w w' := by
  have HK := Lib.hid (fun u (h : ordM u) => Ht.known_any (w := u) h)
  have HO := Lib.hid hO
  have HF := Lib.hid (few_any (cp := cp) h)
  have H := Lib.hid h
  obtain ⟨N, hN⟩ : ∃ N, N = l.length := ⟨_, rfl⟩
  rw [← hN] at HF ⊢
  have HN := Lib.hid hN
  clear h hO hN
  go_enter Tryz.func4, Tryz.ntmps4
  go_wp2_with fail
  refine HF.out.mono ?_
  rintro e w' ⟨b, rfl, hb, rfl⟩
  cases b
  · clear hb HF
    go_wp2_with fail
    refine (HK.out _ HO.out).mono ?_
    rintro e w5 ⟨rfl, b5⟩
    go_wp2
    go_ret
    exact ⟨rfl, b5⟩
  · have HFW := Lib.hid (hb rfl)
    clear hb HF
    have HG1 := Lib.hid (given_any (cp := cp) H.out (by have := HFW.out.1; omega))
    rw [← HN.out] at HG1
    go_wp2_with fail
    refine HG1.out.mono ?_
    rintro e w1 ⟨A1, c1, rfl, hp1, b1⟩
    have B1 := Lib.hid b1
    have HTX := Lib.hid (Text_any (c := c1) hp1 (by have := HFW.out.2.2; omega) (by have := HFW.out.1; omega) (fun p hp => by have := (HFW.out.2.1 p hp).2.1; omega))
    rw [← HN.out] at HTX
    clear hp1 b1 HG1
    obtain ⟨tt, htt⟩ : ∃ tt : ByteArray, tt = ⟨(textM l).2.toArray⟩ := ⟨_, rfl⟩
    obtain ⟨te, hte⟩ : ∃ te, te = (textM l).1 := ⟨_, rfl⟩
    have HTT := Lib.hid htt
    have HTE := Lib.hid hte
    rw [← htt, ← hte] at HTX
    clear htt hte
    go_wp2_with fail
    refine HTX.out.mono ?_
    rintro e w2 ⟨rfl, b2⟩
    have B2 := Lib.hid (grows B1.out b2)
    have HTR := Lib.hid (rText_any (c := cp) (H.out.below B2.out) (by have := HFW.out.2.2; omega) (by have := HFW.out.1; omega) (fun p hp => by have := (HFW.out.2.1 p hp).2.1; omega))
    rw [← HN.out, ← HTT.out, ← HTE.out] at HTR
    clear b2 HTX
    go_wp2_with fail
    refine HTR.out.mono ?_
    rintro e w3 ⟨rfl, b3⟩
    have B3 := Lib.hid (grows B2.out b3)
    have HG2 := Lib.hid (given_any (cp := cp) (H.out.below B3.out) (by have := HFW.out.1; omega))
    rw [← HN.out] at HG2
    clear b3 HTR
    go_wp2_with fail
    refine HG2.out.mono ?_
    rintro e w4 ⟨A4, c4, rfl, hp4, b4⟩
    have B4 := Lib.hid (grows B3.out b4)
    have HPB : Hid (ptsB l ≤ 50000000) := Lib.hid (by have h1 := HFW.out.2.2; have h2 := HFW.out.1; have h3 := ptsB_le l; omega)
    have HEC := Lib.hid (Encode_any (c := c4) hp4 (HO.out.below B4.out) (by have := HFW.out.2.2; omega) (by have := HFW.out.1; omega) (fun p hp => by have := (HFW.out.2.1 p hp).2.1; omega) (by have := HPB.out; omega))
    rw [← HN.out] at HEC
    obtain ⟨ec, hec⟩ : ∃ ec, ec = encE l := ⟨_, rfl⟩
    rw [← hec] at HEC
    have HEE := Lib.hid hec
    clear hp4 b4 HG2 hec
    go_wp2_with fail
    refine HEC.out.mono ?_
    rintro e w5 ⟨S, rfl, hS, b5⟩
    have HS := Lib.hid hS
    have B5 := Lib.hid (grows B4.out b5)
    have HER := Lib.hid (rEncode_any (c := cp) (H.out.below B5.out) (by have := HFW.out.2.2; omega) (by have := HFW.out.1; omega) (fun p hp => by have := (HFW.out.2.1 p hp).2.1; omega) HPB.out)
    rw [← HN.out, ← HEE.out] at HER
    clear hS b5 HEC
    go_wp2_with fail
    refine HER.out.mono ?_
    rintro e w6 ⟨S', rfl, hS', b6⟩
    obtain rfl := enc_same HS.out hS'
    have B6 := Lib.hid (grows B5.out b6)
    clear hS' b6 HER
    go_wp2_with fail
    refine (HK.out _ (HO.out.below B6.out)).mono ?_
    rintro e w7 ⟨rfl, b7⟩
    go_wp2
    go_ret
    exact ⟨rfl, grows B6.out b7⟩
end Go.Proofs.YtnkninjdpgpkmaaGreatDoor.packTexts
