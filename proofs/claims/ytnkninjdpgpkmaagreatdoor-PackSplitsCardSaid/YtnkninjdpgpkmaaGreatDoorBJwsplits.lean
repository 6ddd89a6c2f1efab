/-
  PackSplits: a text that was split, and packed, is inflated as it was, and its parts stand for it.
  Conditions: none.
  The walk of the call.
-/
import Derived.Test.YtnkninjdpgpkmaaGreatDoorBbl
import Derived.Test.YtnkninjdpgpkmaaGreatDoorBbv
import Derived.Test.YtnkninjdpgpkmaaGreatDoorBal
namespace Go.Proofs.YtnkninjdpgpkmaaGreatDoor.packSplits
open Go.RowKit
open Go.Proofs.YtnkninjdpgpkmaaGreatDoor.Bm Go.Proofs.YtnkninjdpgpkmaaGreatDoor.Bw Go.Proofs.YtnkninjdpgpkmaaGreatDoor.Na Go.Proofs.YtnkninjdpgpkmaaGreatDoor.Ky Go.Proofs.YtnkninjdpgpkmaaGreatDoor.Kw Go.Proofs.YtnkninjdpgpkmaaGreatDoor.Fm Go.Proofs.YtnkninjdpgpkmaaGreatDoor.Gm Go.Proofs.YtnkninjdpgpkmaaGreatDoor.Ga Go.Proofs.YtnkninjdpgpkmaaGreatDoor.Gp Go.Proofs.YtnkninjdpgpkmaaGreatDoor.Gt Go.Proofs.YtnkninjdpgpkmaaGreatDoor.Gz Go.Proofs.YtnkninjdpgpkmaaGreatDoor.Hs Go.Proofs.YtnkninjdpgpkmaaGreatDoor.Hu Go.Proofs.YtnkninjdpgpkmaaGreatDoor.Im Go.Proofs.YtnkninjdpgpkmaaGreatDoor.Ib Go.Proofs.YtnkninjdpgpkmaaGreatDoor.Ik Go.Proofs.YtnkninjdpgpkmaaGreatDoor.In

theorem encPs_bl : ∀ (l : List Pz) (b : List UInt8) (z : Nat), okPs b (l.map Pz.pt) → bl (encPs (l.map Pz.pt) z) ≤ ptsB l
  | [], b, z, _ => Nat.le_refl _
  | p :: r, b, z, h => by
    rw [List.map_cons, encPs_cons, bl_append]
    have h1 := encP_bl h.1 (r.map Pz.pt).isEmpty z
    have h2 := encPs_bl r _ (z + bl (encP p.pt (r.map Pz.pt).isEmpty z)) h.2
    simp only [ptsB]
    omega
/-- What comes of it, in one. -/
theorem splits {s : ByteArray} {z : Int} {L : List Pc} (hs : s.size ≤ 1500) (h : L.map Pc.sp = partsOf s.data.toList 0 (pcs (pn z) s.size)) {S : ByteArray} (hS : encS (L.map Pc.pz) S) :
    limM (num S.data.toList) S.size 0 [] ∧ (tot S 0 []).1 = 0 ∧ (⟨(tot S 0 []).2.2.2.toArray⟩ : ByteArray) = s := by
  obtain ⟨e1, e2⟩ := split_enc (s := s) (by omega) h
  obtain ⟨h1, h2, h3, h4, h5, h6, h7⟩ := split_of (s := s) (by omega) h
  have hH := hS.2 e1
  have hb := encPs_bl _ [] 0 (parts_ok _ [] (by rw [h2]) h3).1
  have hz := hH.2
  obtain ⟨a1, a2, a3⟩ := split_all (s := s) (by omega) h hH (by omega)
  refine ⟨a1, a2, ?_⟩
  show (⟨(allM (num S.data.toList) (8 * S.size) 0 [] 0).2.2.2.toArray⟩ : ByteArray) = s
  rw [a3, ba_list]

set_option maxHeartbeats 2000000 in
set_option maxRecDepth 100000 in
theorem walk (s : ByteArray) (z : Int) (w : World) (_ws : s.size ≤ maxLen) (_wz : (Lit.int .i64 z).wf = true) (hO : ordM w) :
    Calls Tryz.prog 6 #[.string s, .int .i64 z] w fun e w' => e = .returned (.bool true) ∧ Below w.heap.size w w' := by
  have HK := Lib.hid (fun u (h : ordM u) => Ht.known_any (w := u) h)
  have HO := Lib.hid hO
  clear _ws _wz hO
  by_cases h : s.size ≤ 1500
  · have h' : ¬ (1500 : Int) < (s.size : Int) := by omega
    have HS := Lib.hid (Split_any (s := s) (z := z) (by omega) w)
    have H15 := Lib.hid h
    clear h
    go_enter Tryz.func6, Tryz.ntmps6
    go_wp2_with fail
    refine HS.out.mono ?_
    rintro e w1 ⟨A, c, L, rfl, hL, hp, b1⟩
    have HP := Lib.hid hp.read
    have HLL := Lib.hid hL
    have B1 := Lib.hid b1
    obtain ⟨N, hN⟩ : ∃ N, N = (L.map Pc.pz).length := ⟨_, rfl⟩
    have hNL : N = L.length := by rw [hN, List.length_map]
    have HTX := Lib.hid (by
      obtain ⟨h1, h2, h3, h4, h5, h6, h7⟩ := split_of (s := s) (by have := H15.out; omega) hL
      have t := Text_any (c := c) HP.out (by omega) (by omega) (fun p hp => by have := h6 p hp; omega)
      rw [← hN, (split_enc (s := s) (by have := H15.out; omega) hL).2] at t
      rw [show (⟨(((0 : Int), s.data.toList) : Int × List UInt8).2.toArray⟩ : ByteArray) = s from ba_list s] at t
      exact t)
    have HEC := Lib.hid (fun u (hu : Below w1.heap.size w1 u) => by
      obtain ⟨h1, h2, h3, h4, h5, h6, h7⟩ := split_of (s := s) (by have := H15.out; omega) hL
      have t := Encode_any (c := c) (HP.out.below hu) (HO.out.below (grows B1.out hu)) (by omega) (by omega) (fun p hp => by have := h6 p hp; omega) (by omega)
      rw [← hN, (split_enc (s := s) (by have := H15.out; omega) hL).1] at t
      exact t)
    rw [← hNL]
    clear hL hp b1 hN hNL HS
    go_wp2_with fail
    refine HTX.out.mono ?_
    rintro e w2 ⟨rfl, b2⟩
    have B2 := Lib.hid b2
    clear b2 HTX
    go_wp2_with fail
    refine (HEC.out _ B2.out).mono ?_
    rintro e w3 ⟨S, rfl, hS, b3⟩
    have B3 := Lib.hid (grows B1.out (grows B2.out b3))
    have HSP := Lib.hid (splits H15.out HLL.out hS)
    have HAL := Lib.hid (all_lim S 0 ⟨#[]⟩ w3 (HO.out.below B3.out) HSP.out.1 (Nat.zero_le _) (by decide))
    clear hS b3 HEC
    go_wp2_with fail
    refine HAL.out.mono ?_
    rintro e w4 ⟨b4, hc⟩
    have hl : Wm.lastN 32768 (⟨#[]⟩ : ByteArray).data.toList = [] := rfl
    rw [hl] at hc
    rcases hc with ⟨h0, _⟩ | ⟨_, v', he, hv'⟩
    · exact absurd HSP.out.2.1 h0
    · rw [HSP.out.2.2] at he
      subst he
      obtain ⟨E4, hE4⟩ : ∃ E4 : Int, E4 = ((tot S 0 []).2.2.1 : Int) := ⟨_, rfl⟩
      rw [← hE4]
      have B4 := Lib.hid (grows B3.out b4)
      clear hE4 hv' b4 hl HAL
      go_wp2_with fail
      refine (HK.out _ (HO.out.below B4.out)).mono ?_
      rintro e w5 ⟨rfl, b5⟩
      go_wp2
      go_ret
      exact ⟨rfl, grows B4.out b5⟩
  · have h' : (1500 : Int) < (s.size : Int) := by omega
    clear h
    go_enter Tryz.func6, Tryz.ntmps6
    go_wp2_with fail
    refine (HK.out _ HO.out).mono ?_
    rintro e w5 ⟨rfl, b5⟩
    go_wp2
    go_ret
    exact ⟨rfl, b5⟩
end Go.Proofs.YtnkninjdpgpkmaaGreatDoor.packSplits
