/-
  PackOps: the ops of any text, and its parts, are as the reference says.
  Conditions: none.
  The walk of the call.
-/
import Derived.Test.YtnkninjdpgpkmaaDoorQbm
import Derived.Test.YtnkninjdpgpkmaaDoorQbn
import Derived.Test.YtnkninjdpgpkmaaDoorQbo
import Derived.Test.YtnkninjdpgpkmaaDoorQam
namespace Go.Proofs.YtnkninjdpgpkmaaDoor.packOps
open Go.RowKit
open Go.Proofs.YtnkninjdpgpkmaaDoor.Bm Go.Proofs.YtnkninjdpgpkmaaDoor.Bw Go.Proofs.YtnkninjdpgpkmaaDoor.Na Go.Proofs.YtnkninjdpgpkmaaDoor.Ky Go.Proofs.YtnkninjdpgpkmaaDoor.Gm Go.Proofs.YtnkninjdpgpkmaaDoor.Ga Go.Proofs.YtnkninjdpgpkmaaDoor.Gr Go.Proofs.YtnkninjdpgpkmaaDoor.Gp Go.Proofs.YtnkninjdpgpkmaaDoor.Gt Go.Proofs.YtnkninjdpgpkmaaDoor.Hm Go.Proofs.YtnkninjdpgpkmaaDoor.Hp Go.Proofs.YtnkninjdpgpkmaaDoor.Hq Go.Proofs.YtnkninjdpgpkmaaDoor.Hs Go.Proofs.YtnkninjdpgpkmaaDoor.Hx Go.Proofs.YtnkninjdpgpkmaaDoor.Hz Go.Proofs.YtnkninjdpgpkmaaDoor.Hk

/-- A part of its place in the text. -/
def spz (p : Sp) : Pz := ⟨(p.k : Int), ⟨p.t.toArray⟩, p.os.map Opx.int, 0, fun _ => 0, 0, fun _ => 0⟩
theorem pz_sp (p : Pc) : p.pz = spz p.sp := by
  unfold Pc.pz spz Pc.sp
  dsimp only
theorem pz_same {L M : List Pc} (h : L.map Pc.sp = M.map Pc.sp) : L.map Pc.pz = M.map Pc.pz := by
  have e : ∀ X : List Pc, X.map Pc.pz = (X.map Pc.sp).map spz := fun X => by
    rw [List.map_map]
    exact List.map_congr_left (fun p _ => pz_sp p)
  rw [e, e, h]

set_option maxHeartbeats 2000000 in
set_option maxRecDepth 100000 in
theorem walk (s : ByteArray) (z : Int) (w : World) (_ws : s.size ≤ maxLen) (_wz : (Lit.int .i64 z).wf = true) (hO : ordM w) :
    Calls Tryd.prog 3 #[.string s, .int .i64 z] w fun e w' => e = .returned (.bool true) ∧ Below w.heap.size w w' := by
  have HK := Lib.hid (fun u (h : ordM u) => Ht.known_any (w := u) h)
  have HO := Lib.hid hO
  clear _ws _wz hO
  by_cases h : s.size ≤ 1500
  · have h' : ¬ (1500 : Int) < (s.size : Int) := by omega
    have HP1 := Lib.hid (fun u => Ops_any (s := s) (by omega) u)
    have HP2 := Lib.hid (fun u => rOps_any (s := s) (by omega) u)
    have HS1 := Lib.hid (fun u => Split_any (s := s) (z := z) (by omega) u)
    have HS2 := Lib.hid (fun u => rSplit_any (s := s) (z := z) (by omega) u)
    have HLL : Hid ((opsM s.data.toList 0).length ≤ 1000000) := Lib.hid (by
      have h1 := opsM_len s.data.toList
      have h2 : s.data.toList.length = s.size := Array.length_toList
      omega)
    have HQL : Hid (∀ L : List Pc, L.map Pc.sp = partsOf s.data.toList 0 (pcs (pn z) s.size) → L.length ≤ 1000000) := Lib.hid (fun L hL => by
      have h1 := congrArg List.length hL
      rw [List.length_map] at h1
      have h2 : ∀ (Q : List (Nat × Nat)) i, (partsOf s.data.toList i Q).length = Q.length := fun Q => by
        induction Q with
        | nil => intro i; rfl
        | cons x Q ih => intro i; simp [partsOf, ih]
      have h3 := pcsF_len (pn z) s.size 0 s.size
      rw [h1, h2]
      unfold pcs
      omega)
    clear h
    go_enter Tryd.func3, Tryd.ntmps3
    go_wp2_with fail
    refine (HP1.out _).mono ?_
    rintro e w1 ⟨A1, n1, c1, rfl, o1, l1, b1⟩
    have O1 := Lib.hid o1
    have L1 := Lib.hid l1
    have B1 := Lib.hid b1
    have e1 : n1 = ((opsM s.data.toList 0).map Opx.int).length := by
      obtain ⟨A', c', e⟩ := o1.form
      rw [List.length_map]
      injection e
    have E1 := Lib.hid e1
    clear o1 l1 b1 e1
    go_wp2_with fail
    refine (HP2.out _).mono ?_
    rintro e w2 ⟨A2, n2, c2, rfl, o2, l2, b2⟩
    have e2 : n2 = ((opsM s.data.toList 0).map Opx.int).length := by
      obtain ⟨A', c', e⟩ := o2.form
      rw [List.length_map]
      injection e
    have B2 := Lib.hid (grows B1.out b2)
    have HSM := Lib.hid (OpsSame_same (c1 := c1) (c2 := c2) ((O1.out.below b2).read L1.out) (o2.read l2) (by rw [List.length_map]; exact HLL.out))
    rw [← e2] at HSM
    have e3 : n1 = n2 := by rw [E1.out, e2]
    subst e3
    clear o2 l2 b2 e2
    go_wp2_with fail
    refine HSM.out.mono ?_
    rintro e w3 ⟨rfl, q3, hq3⟩
    have B3 : Hid (Below w.heap.size w w3) := Lib.hid (by rw [hq3]; exact grows B2.out (below_draws _ _))
    clear hq3 HSM
    go_wp2_with fail
    refine (HS1.out _).mono ?_
    rintro e w4 ⟨A4, c4, L4, rfl, hL4, hp4, b4⟩
    have B4 := Lib.hid (grows B3.out b4)
    have P4 := Lib.hid hp4
    have LL4 := Lib.hid hL4
    obtain ⟨m4, hm4⟩ : ∃ m4, m4 = (L4.map Pc.pz).length := ⟨_, rfl⟩
    have HTK := Lib.hid (taken_any (cp := c4) hp4.read (by rw [List.length_map]; exact HQL.out L4 hL4))
    rw [← hm4] at HTK
    rw [show L4.length = m4 by rw [hm4, List.length_map]]
    have HM4 := Lib.hid hm4
    clear hp4 hL4 b4 hm4
    go_wp2_with fail
    refine HTK.out.mono ?_
    rintro e w5 ⟨A5, c5, rfl, hp5, b5⟩
    have P5 := Lib.hid hp5
    have B5 := Lib.hid (grows B4.out b5)
    clear hp5 b5 HTK
    go_wp2_with fail
    refine (HS2.out _).mono ?_
    rintro e w6 ⟨A6, c6, L6, rfl, hL6, hp6, b6⟩
    have B6 := Lib.hid (grows B5.out b6)
    have hpz : L4.map Pc.pz = L6.map Pc.pz := pz_same (LL4.out.trans hL6.symm)
    have hr6 := hp6.read
    rw [← hpz] at hr6
    have HSS := Lib.hid (Same_same (c1 := c5) (c2 := c6) (P5.out.below b6) hr6 (by rw [List.length_map]; have := HQL.out L4 LL4.out; omega) (fun p hp => by
      obtain ⟨q, hq, rfl⟩ := List.mem_map.1 hp
      show (q.os.map Opx.int).length ≤ _
      rw [List.length_map]
      exact (P4.out.m q hq).l))
    rw [← HM4.out] at HSS
    rw [show L6.length = m4 by rw [HM4.out, hpz, List.length_map]]
    clear hL6 hp6 b6 hpz hr6
    go_wp2_with fail
    refine HSS.out.mono ?_
    rintro e w7 ⟨rfl, b7⟩
    have B7 := Lib.hid (grows B6.out b7)
    clear b7 HSS
    go_wp2_with fail
    refine (HK.out _ (HO.out.below B7.out)).mono ?_
    rintro e w8 ⟨rfl, b8⟩
    go_wp2
    go_ret
    exact ⟨rfl, grows B7.out b8⟩
  · have h' : (1500 : Int) < (s.size : Int) := by omega
    clear h
    go_enter Tryd.func3, Tryd.ntmps3
    go_wp2_with fail
    refine (HK.out _ HO.out).mono ?_
    rintro e w5 ⟨rfl, b5⟩
    go_wp2
    go_ret
    exact ⟨rfl, b5⟩
end Go.Proofs.YtnkninjdpgpkmaaDoor.packOps
