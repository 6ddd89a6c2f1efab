/-
  PackCopies: the ops of a text make it; there are no more of them than bytes.
  Conditions: none.
  The walk of the call.
-/
import Derived.Test.YtnkninjdpgpkmaaDoorQbm
import Derived.Test.YtnkninjdpgpkmaaDoorQak
import Derived.Test.YtnkninjdpgpkmaaDoorQam
namespace Go.Proofs.YtnkninjdpgpkmaaDoor.packCopies
open Go.RowKit
open Go.Proofs.YtnkninjdpgpkmaaDoor.Bm Go.Proofs.YtnkninjdpgpkmaaDoor.Bw Go.Proofs.YtnkninjdpgpkmaaDoor.Na Go.Proofs.YtnkninjdpgpkmaaDoor.Ky Go.Proofs.YtnkninjdpgpkmaaDoor.Gm Go.Proofs.YtnkninjdpgpkmaaDoor.Ga Go.Proofs.YtnkninjdpgpkmaaDoor.Gr Go.Proofs.YtnkninjdpgpkmaaDoor.Gp Go.Proofs.YtnkninjdpgpkmaaDoor.Gt Go.Proofs.YtnkninjdpgpkmaaDoor.Hm Go.Proofs.YtnkninjdpgpkmaaDoor.Hp Go.Proofs.YtnkninjdpgpkmaaDoor.Hs Go.Proofs.YtnkninjdpgpkmaaDoor.Hv

/-- The part. -/
def kz (s : ByteArray) : Pz := ⟨1, ⟨#[]⟩, (opsM s.data.toList 0).map Opx.int, 0, fun _ => 0, 0, fun _ => 0⟩
theorem kz_of {s : ByteArray} (hs : s.size ≤ 10000) : textM [kz s] = (0, s.data.toList) ∧ ptsC [kz s] ≤ 20000 ∧ (∀ p ∈ [kz s], p.os.length ≤ 10000) := by
  have hmk := opsM_make s.data.toList [] s.data.toList.length 0 (by omega) (Nat.zero_le _)
  rw [List.take_zero, List.append_nil, List.drop_zero] at hmk
  obtain ⟨m1, m2, m3⟩ := hmk
  obtain ⟨c1, c2⟩ := opsC_of _ [] m2
  rw [m1] at c1 c2
  have hl : s.data.toList.length = s.size := Array.length_toList
  have h1 : ptT [] (kz s) = (0, s.data.toList) := by
    unfold ptT
    rw [if_neg (show ¬ ((kz s).k < 0 ∨ 2 < (kz s).k ∨ ((kz s).k = 0 ∧ 65535 < (kz s).t.size)) from by unfold kz; simp), if_neg (show ¬ (kz s).k = 0 from by unfold kz; simp)]
    show opsT [] ((opsM s.data.toList 0).map Opx.int) = _
    rw [opsT_of _ [] m2, m1]; rfl
  refine ⟨?_, ?_, ?_⟩
  · rw [textM_cons (by simp)]
    have : ptsT [] [kz s] = (0, s.data.toList) := by simp only [ptsT]; rw [h1, if_pos rfl]
    rw [this, if_pos rfl]
  · have : ptsC [kz s] = 0 + opsC ((opsM s.data.toList 0).map Opx.int) + 0 := rfl
    rw [this]; omega
  · intro p hp
    obtain rfl : p = kz s := by simpa using hp
    show ((opsM s.data.toList 0).map Opx.int).length ≤ _
    rw [List.length_map]; omega
theorem kz_ptr {w1 w2 : World} {base g : Nat} {s : ByteArray} {A : Option Addr} {n c : Nat} (h : opo base w1 (.slice A n c) (opsM s.data.toList 0)) (hb : ∀ o ∈ opsM s.data.toList 0, o.n ≤ 1000000000 ∧ o.d ≤ 1000000000) (b2 : Below w1.heap.size w1 w2)
    (h2 : Blk w2 g 38 #[.int .i64 1, .string ⟨#[]⟩, .slice A n c, .slice none 0 0, .slice none 0 0]) : ptr w2 (some ⟨g, 0, none⟩) [kz s] := by
  intro i p hi
  match i, hi with
  | 0, hi =>
    obtain rfl : kz s = p := by simpa using hi
    have hn : n = ((opsM s.data.toList 0).map Opx.int).length := by
      obtain ⟨A', c', e⟩ := h.form
      rw [List.length_map]
      injection e
    subst hn
    exact ⟨g, 0, rfl, h2.lt, ⟨⟨by show (-9223372036854775808 : Int) ≤ 1; decide, by show (1 : Int) ≤ 9223372036854775807; decide⟩, h2.cell 0, h2.cell 1, ⟨_, _, h2.cell 2, (h.below b2).read hb⟩, ⟨none, 0, h2.cell 3, row_none _ _ _, Nat.zero_le _⟩, ⟨none, 0, h2.cell 4, row_none _ _ _, Nat.zero_le _⟩⟩⟩
  | i + 1, hi => simp at hi

set_option maxHeartbeats 2000000 in
set_option maxRecDepth 100000 in
theorem walk (s : ByteArray) (z : Int) (w : World) (_ws : s.size ≤ maxLen) (wz : (Lit.int .u8 z).wf = true) (hO : ordM w) :
    Calls Tryd.prog 4 #[.string s, .int .u8 z] w fun e w' => e = .returned (.bool true) ∧ Below w.heap.size w w' := by
  have HK := Lib.hid (fun u (h : ordM u) => Ht.known_any (w := u) h)
  have HO := Lib.hid hO
  have hz : 0 ≤ z ∧ z ≤ 255 := by simpa [Lit.wf, IntKind.min, IntKind.max, IntKind.signed, IntKind.bits] using wz
  clear _ws wz hO
  by_cases h0 : s.size = 0
  · have hb : ((s.size : Int) == 0) = true := by rw [h0]; rfl
    clear h0
    go_enter Tryd.func4, Tryd.ntmps4
    go_wp2_with fail
    refine (HK.out _ HO.out).mono ?_
    rintro e w5 ⟨rfl, b5⟩
    go_wp2
    go_ret
    exact ⟨rfl, b5⟩
  · have hb : ((s.size : Int) == 0) = false := beq_eq_false_iff_ne.2 (by omega)
    by_cases h1 : 200 < s.size
    · have h1' : (200 : Int) < (s.size : Int) := by omega
      clear h0 h1
      go_enter Tryd.func4, Tryd.ntmps4
      go_wp2_with fail
      refine (HK.out _ HO.out).mono ?_
      rintro e w5 ⟨rfl, b5⟩
      go_wp2
      go_ret
      exact ⟨rfl, b5⟩
    · have h1' : ¬ (200 : Int) < (s.size : Int) := by omega
      obtain ⟨n, rfl⟩ := Int.eq_ofNat_of_zero_le hz.1
      have hn : n ≤ 255 := by omega
      have hs200 : s.size ≤ 200 := by omega
      obtain ⟨k, hk⟩ : ∃ k : Nat, k = 1 + n % 6 := ⟨_, rfl⟩
      have hk6 : k ≤ 6 := by omega
      have hkw : IntKind.i64.wrap (1 + (n : Int) % 6) = (k : Int) := by rw [IntKind.wrap_i64]; omega
      clear h0 h1 hz
      go_enter Tryd.func4, Tryd.ntmps4
      go_wp2_with fail
      rw [show (1 + (n : Int) % 6) = (k : Int) from by omega]
      clear hkw hk
      go_loopw [6, 7] (fun s6 s7 wr => ∃ (i : Nat) (G : ByteArray), s6 = .string G ∧ s7 = .int .i64 (i : Int) ∧ i ≤ k ∧ Hid (G.size = i * s.size) ∧ wr = w) (fun _ s7 _ => k - (intOf s7).toNat)
      case atStart => exact ⟨0, ⟨#[]⟩, rfl, rfl, Nat.zero_le _, Lib.hid (by rw [Nat.zero_mul]; rfl), rfl⟩
      case round =>
        obtain ⟨i, G, rfl, rfl, hi, HG, rfl⟩ := hrel
        have HS2 := Lib.hid hs200
        by_cases hik : i < k
        · have hik' : (i : Int) < (k : Int) := by omega
          have hcat : ¬ 9223372036854775807 < G.size + s.size := by
            have h1 : G.size ≤ 6 * 200 := by rw [HG.out]; exact Nat.mul_le_mul (by omega) hs200
            omega
          go_wp2
          go_roundw
          case rel => exact ⟨i + 1, G ++ s, rfl, by go_num, by omega, Lib.hid (by rw [ByteArray.size_append, HG.out, Nat.succ_mul]), trivial⟩
          case measure => simp [intOf]; omega
        · have hik' : ¬ (i : Int) < (k : Int) := by omega
          have hG : G.size ≤ 1200 := by
            rw [HG.out]
            exact Nat.mul_le_mul (show i ≤ 6 by omega) hs200
          have HOP := Lib.hid (Ops_any (s := G) (by omega) wr)
          have HKZ := Lib.hid (kz_of (s := G) (by omega))
          have HLE : Hid ((opsM G.data.toList 0).length ≤ G.size) := Lib.hid (by
            have h := (opsM_make G.data.toList [] G.data.toList.length 0 (by omega) (Nat.zero_le _)).2.2
            have hl : G.data.toList.length = G.size := Array.length_toList
            omega)
          clear hik hs200
          go_wp2_with fail
          refine HOP.out.mono ?_
          rintro e w1 ⟨A, n', c, rfl, o1, l1, b1⟩
          obtain ⟨w2, hw2⟩ : ∃ w2, w2 = w1.alloc (.cells #[.int .i64 1, .string ⟨#[]⟩, .slice A n' c, .slice none 0 0, .slice none 0 0] 38) := ⟨_, rfl⟩
          obtain ⟨g2, hg2⟩ : ∃ g2, g2 = w1.heap.size := ⟨_, rfl⟩
          have b2 : Below w1.heap.size w1 w2 := by rw [hw2]; exact below_alloc _ _
          have k2 : Blk w2 g2 38 #[.int .i64 1, .string ⟨#[]⟩, .slice A n' c, .slice none 0 0, .slice none 0 0] := by rw [hw2, hg2]; exact Blk.fresh _ _ _
          have HTX := Lib.hid (Text_any (c := 1) (kz_ptr o1 l1 b2 k2) (by have := HKZ.out.2.1; omega) (by show 1 ≤ _; omega) (fun p hp => by have := HKZ.out.2.2 p hp; omega))
          rw [HKZ.out.1] at HTX
          rw [show (⟨(((0 : Int), G.data.toList) : Int × List UInt8).2.toArray⟩ : ByteArray) = G from ba_list G] at HTX
          have HTX1 : Hid (Calls Tryd.prog 13 #[.slice (some ⟨g2, 0, none⟩) 1 1] w2 fun e w' => e = .returned (.tuple #[.string G, .int .i64 0]) ∧ Below w2.heap.size w2 w') := HTX
          have hn' : n' = (opsM G.data.toList 0).length := by
            obtain ⟨A', c', e⟩ := o1.form
            injection e
          have hnle : (n' : Int) ≤ (G.size : Int) := by have := HLE.out; omega
          have B2 := Lib.hid (grows b1 b2)
          clear o1 l1 b1 b2 k2 hn' HTX HOP hG
          go_wp2_with fail
          rw [← hw2]
          try rw [← hg2]
          clear hw2 hg2
          refine HTX1.out.mono ?_
          rintro e w3 ⟨rfl, b3⟩
          have B3 := Lib.hid (grows B2.out b3)
          clear b3 HTX1
          go_wp2_with fail
          refine (HK.out _ (HO.out.below B3.out)).mono ?_
          rintro e w4 ⟨rfl, b4⟩
          go_wp2
          go_ret
          exact ⟨rfl, grows B3.out b4⟩
end Go.Proofs.YtnkninjdpgpkmaaDoor.packCopies
