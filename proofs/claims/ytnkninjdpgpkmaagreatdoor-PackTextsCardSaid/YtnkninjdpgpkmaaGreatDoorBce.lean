/-
  The reference's writer (collimatorref04), Bytes and Text: their results, the bits behind them; of what was there only the writer and its bits have changed.
  Conditions: as each theorem says.
-/
import Derived.Test.YtnkninjdpgpkmaaGreatDoorBbc
import Derived.BigRegion
namespace Go.Proofs.YtnkninjdpgpkmaaGreatDoor.Bf
open Go.RowKit Go.Proofs.YtnkninjdpgpkmaaGreatDoor.Vm Go.Proofs.YtnkninjdpgpkmaaGreatDoor.Vo Go.Proofs.YtnkninjdpgpkmaaGreatDoor.Bm Go.Proofs.YtnkninjdpgpkmaaGreatDoor.Bo Go.Proofs.YtnkninjdpgpkmaaGreatDoor.Bt Go.Proofs.YtnkninjdpgpkmaaGreatDoor.Bw Go.Proofs.YtnkninjdpgpkmaaGreatDoor.Br Go.Proofs.YtnkninjdpgpkmaaGreatDoor.Bv Go.Proofs.YtnkninjdpgpkmaaGreatDoor.Bx Go.Proofs.YtnkninjdpgpkmaaGreatDoor.Be

theorem later_then {a b : World} {v v1 v2 : Value} (h : later a v v1) (k : later b v1 v2) (hs : a.heap.size ≤ b.heap.size) : later a v v2 := by
  rcases k with k | ⟨i, hi, k⟩
  · rcases h with h | ⟨i, hi, h⟩
    · exact .inl (k.trans h)
    · exact .inr ⟨i, hi, k.trans h⟩
  · exact .inr ⟨i, by omega, k⟩
theorem only_then {a b c : World} {g : Nat} {v v1 : Value} (h : Only (own g v) a b) (la : later a v v1) (k : Only (own g v1) b c) : Only (own g v) a c :=
  h.then k (fun i hi hlt => by
    rcases hi with rfl | hi
    · exact .inl rfl
    · rcases own_of (g := g) la i hi with h | h
      · exact h
      · omega)

set_option maxHeartbeats 4000000 in
set_option maxRecDepth 100000 in
theorem rwBytes_any (base : Nat) {w : World} {g : Nat} {v : Value} {bs : List UInt8} (s : ByteArray) (h : rw' base w g v bs) (hb : base ≤ w.heap.size) (hz : bs.length ≤ 35184372088832) (hs : s.size ≤ 100000) :
    Calls Tryz.prog 52 #[.pointer (some ⟨g, 0, none⟩), .string s] w fun e w' => e = .returned (.tuple #[]) ∧ ∃ v' bs', rw' base w' g v' bs' ∧ bs'.length = (bs.length + 7) / 8 * 8 + 8 * s.size ∧ bitN bs' = bitN bs + 2 ^ ((bs.length + 7) / 8 * 8) * num s.data.toList ∧ Only (own g v) w w' ∧ later w v v' := by
  have hA := Lib.hid (rwAlign_any base h hb (by omega))
  generalize hZ : (bs.length + 7) / 8 * 8 = Z at *
  have hZb : Z ≤ 35184372088840 := by omega
  clear h hZ
  go_enter Tryz.func52, Tryz.ntmps52
  go_wp2_with fail
  refine hA.out.mono ?_
  rintro e w1 ⟨rfl, v1, b1, t1, l1, n1, o1, a1⟩
  have T1 := Lib.hid t1; have L1 := Lib.hid l1; have N1 := Lib.hid n1
  clear t1 l1 n1
  go_wp2
  go_loopw [4] (fun i wr => ∃ (k : Nat) (v2 : Value) (b2 : List UInt8), i = .int .i64 k ∧ k ≤ s.size ∧ Hid (rw' base wr g v2 b2) ∧ Hid (b2.length = Z + 8 * k) ∧ Hid (bitN b2 = bitN bs + 2 ^ Z * num (s.data.toList.take k)) ∧ Only (own g v) w wr ∧ later w v v2)
    (fun i _ => s.size - (intOf i).toNat)
  case atStart => exact ⟨0, v1, b1, rfl, by omega, T1, Lib.hid (by rw [L1.out]; simp), Lib.hid (by rw [N1.out]; simp [num]), o1, a1⟩
  case round =>
    obtain ⟨k, v2, b2, rfl, hk, T2, L2, N2, o2, a2⟩ := hrel
    clear T1 L1 N1 o1 a1
    by_cases hlt : k < s.size
    · obtain ⟨x, hx⟩ : ∃ x : UInt8, s[k]'hlt = x := ⟨_, rfl⟩
      have HT : Hid (num (s.data.toList.take (k + 1)) = num (s.data.toList.take k) + 2 ^ (8 * k) * x.toNat) := Lib.hid (by
        have h' : k < s.data.toList.length := by simpa using hlt
        rw [List.take_succ_eq_append_getElem h', num_snoc, List.length_take]
        have e : s.data.toList[k] = x := by rw [← hx]; rfl
        rw [e, Nat.min_eq_left (by omega)])
      have hx8 := UInt8.toNat_lt x
      have hC := Lib.hid (rPut_in base x.toNat 8 T2.out (Nat.le_trans hb o2.size) (by rw [L2.out]; omega) (by omega) hx8)
      go_wp2_with fail
      refine hC.out.mono ?_
      rintro e w3 ⟨rfl, v3, b3, t3, l3, n3, o3, a3⟩
      have T3 := Lib.hid t3
      have L3 : Hid (b3.length = Z + 8 * (k + 1)) := Lib.hid (by rw [l3, L2.out]; omega)
      have N3 : Hid (bitN b3 = bitN bs + 2 ^ Z * num (s.data.toList.take (k + 1))) := Lib.hid (by
        rw [n3, N2.out, L2.out, HT.out, Nat.pow_add, Nat.mul_add, Nat.add_assoc]
        congr 2
        rw [Nat.mul_comm x.toNat, Nat.mul_assoc])
      have O3 := Lib.hid (only_then o2 a2 o3)
      have A3 := Lib.hid (later_then a2 a3 o2.size)
      clear t3 l3 n3 o3 a3
      go_wp2
      go_roundw
      case rel => exact ⟨k + 1, v3, b3, by go_num, by omega, T3, L3, N3, O3.out, A3.out⟩
      case measure => simp [intOf]; omega
    · obtain rfl : k = s.size := by omega
      have N3 : Hid (bitN b2 = bitN bs + 2 ^ Z * num s.data.toList) := Lib.hid (by rw [N2.out, List.take_of_length_le (by simp)])
      go_wp2
      go_end0
      exact ⟨rfl, v2, b2, T2.out, L2.out, N3.out, o2, a2⟩

theorem add_byte (c d x : UInt8) (u : Nat) (hu : u < 8) (hc : c.toNat < 2 ^ u) (h : c.toNat ||| x.toNat * 2 ^ u % 256 = d.toNat) : ((c.toNat : Int) + (x.toNat : Int) * 2 ^ u) % 256 = (d.toNat : Int) := by
  obtain ⟨h1, h2⟩ := or_byte c x.toNat u hu hc
  rw [show (x.toNat : Int) * 2 ^ u = ((x.toNat * 2 ^ u : Nat) : Int) by push_cast; rfl, ← h, h1]
  omega
theorem text_next {bs : List UInt8} {k : Nat} {x : UInt8} {r : List UInt8} {c d : UInt8} (hs : num (r ++ [c]) = bitN (bs.take k)) (h : num (r ++ [d]) + x.toNat / 2 ^ 1 * 2 ^ (k + 1) = num (r ++ [c]) + x.toNat * 2 ^ k) (hx : x.toNat ≤ 1) (hk : bs[k]? = some x) : num (r ++ [d]) = bitN (bs.take (k + 1)) := by
  have hkl : k < bs.length := by
    rcases Nat.lt_or_ge k bs.length with h' | h'
    · exact h'
    · rw [List.getElem?_eq_none h'] at hk; cases hk
  rw [List.getElem?_eq_getElem hkl] at hk
  injection hk with hk
  rw [show x.toNat / 2 ^ 1 = 0 by omega] at h
  rw [List.take_succ_eq_append_getElem hkl, hk, bitN_snoc, List.length_take, Nat.min_eq_left (by omega), ← hs, Nat.mul_comm (2 ^ k)]
  omega

set_option maxHeartbeats 4000000 in
set_option maxRecDepth 100000 in
theorem rwText_any (base : Nat) {w : World} {g : Nat} {v : Value} {bs : List UInt8} (h : rw' base w g v bs) (hz : bs.length ≤ 70368744177664) :
    Calls Tryz.prog 57 #[.pointer (some ⟨g, 0, none⟩)] w fun e w' => ∃ l : List UInt8, e = .returned (.string ⟨l.toArray⟩) ∧ num l = bitN bs ∧ l.length = (bs.length + 7) / 8 ∧ Below w.heap.size w w' := by
  obtain ⟨i0, hi, hz0, hz1, hz2⟩ := info_parts info8
  obtain ⟨A, cap, rfl⟩ := row_form h.o
  have H := Lib.hid h
  have hgl : g < w.heap.size := Blk.lt h.b
  clear h
  go_enter Tryz.func57, Tryz.ntmps57
  go_wp2
  go_loopw [3, 4] (fun vo i wr => ∃ (k : Nat) (l : List UInt8), i = .int .i64 k ∧ k ≤ bs.length ∧ Hid (wr.ownsRow w.heap.size 5 1 vo l.length (Bs l)) ∧ Hid (l.length = (k + 7) / 8) ∧ Hid (num l = bitN (bs.take k)) ∧ Hid (num l < 2 ^ k) ∧ Below w.heap.size w wr)
    (fun _ i _ => bs.length - (intOf i).toNat)
  case atStart => exact ⟨0, [], rfl, by omega, Lib.hid (World.ownsRow_nil _ _ _ _), Lib.hid rfl, Lib.hid (by simp [num, bitN]), Lib.hid (by simp [num]), Below.refl _ _⟩
  case round =>
    rename_i u3 _ _
    obtain ⟨k, l, rfl, hk, HO, HL, HS, HM, hbel⟩ := hrel
    have c0 : wr.cell? ⟨g, 0, none⟩ = some (.slice A bs.length cap) := (hbel.cell (p := ⟨g, 0, none⟩) hgl).trans H.out.b.c0
    by_cases hlt : k < bs.length
    · obtain ⟨bb, hA⟩ : ∃ bb, A = some ⟨bb, 0, none⟩ := by
        rcases H.out.o.2 with ⟨_, h0⟩ | ⟨bb, _, _, e, _⟩
        · omega
        · injection e with e; exact ⟨bb, e⟩
      subst hA
      obtain ⟨x, HX⟩ : ∃ x, Hid (bs[k]? = some x) := ⟨_, Lib.hid (List.getElem?_eq_getElem hlt)⟩
      have hxx : x.toNat ≤ 1 := H.out.ok x (List.mem_of_getElem? HX.out)
      have hbb : bb < w.heap.size := (H.out.o.lt bb rfl).2
      have hcx : wr.cell? ⟨bb, k, none⟩ = some (.int .u8 (x.toNat : Int)) := by
        rw [hbel.cell (p := ⟨bb, k, none⟩) hbb, H.out.o.cellAt k (by omega)]
        unfold Bs
        rw [List.getElem?_map, HX.out]
        rfl
      obtain ⟨p, HP0⟩ : ∃ p, Hid (p = k / 8) := ⟨_, Lib.hid rfl⟩
      obtain ⟨u, HU⟩ : ∃ u, Hid (u = k % 8) := ⟨_, Lib.hid rfl⟩
      have HP : Hid (k = 8 * p + u) := Lib.hid (by have := HP0.out; have := HU.out; omega)
      have hu8 : u < 8 := by have := HU.out; omega
      have hpb : p ≤ 70368744177664 := by have := HP.out; omega
      have q1 : (k : Int) / 8 = (p : Int) := by have := HP.out; omega
      have q1' : (k : Int).tdiv 8 = (p : Int) := by rw [Int.tdiv_eq_ediv_of_nonneg (by omega)]; exact q1
      by_cases h0 : u = 0
      · have hl1 : l.length = p := by have := HL.out; have := HP.out; omega
        have q3 : ((k : Int) % 8 == 0) = true := by have := HU.out; simp; omega
        have HL1 := Lib.hid hl1
        have HOO : wr.ownsRow w.heap.size 5 1 u3 p (Bs l) := by have h := HO.out; rw [hl1] at h; exact h
        have hbw : w.heap.size ≤ wr.heap.size := hbel.size
        clear hl1
        go_wp2_with (at_builtin; refine wpList_append_own_at _ rfl _ _ 62 rfl w.heap.size 5 i0 (.int .u8 0) 1 1 Tryz.underlying62 hi hz0 hz1 hz2 rfl (by decide) u3 p (Bs l) rfl (HOO.alloc _) ⟨wr.heap.size, 0, none⟩ 1 1 [.int .u8 0] rfl rfl (cell_one_new _ _ _) ?a2 ?a3 ?a4 ?a5 ?_)
        case a2 => intro q hq; simp at hq; subst hq; rfl
        case a3 => unfold maxLen; omega
        case a4 => omega
        case a5 => simp; omega
        intro v2 w3 hown2 hgrow _ _
        obtain ⟨b, cp, HV⟩ : ∃ b cp, Hid (v2 = .slice (some ⟨b, 0, none⟩) (p + 1) cp) := by
          rcases hown2.2 with ⟨_, e⟩ | ⟨b, cp, _, e, _⟩
          · omega
          · exact ⟨b, cp, Lib.hid e⟩
        have hv2 := HV.out
        subst hv2
        have hb3 : Below w.heap.size w w3 := (hbel.alloc hbw _).grown hgrow (by simp; omega) (fun i hi => (HOO.lt i hi).1)
        have n0 : num (l ++ [0]) = num l := by rw [num_snoc]; simp
        have O3 : Hid (w3.ownsRow w.heap.size 5 1 (.slice (some ⟨b, 0, none⟩) (p + 1) cp) (p + 1) (Bs (l ++ [0]))) := Lib.hid (by rw [← Bs_snoc]; exact hown2)
        have S3 : Hid (num (l ++ [0]) = bitN (bs.take k)) := Lib.hid (by rw [n0]; exact HS.out)
        have L3 : Hid (num (l ++ [0]) < 2 ^ k) := Lib.hid (by rw [n0]; exact HM.out)
        have hrp : l.length = p := HL1.out
        obtain ⟨r, c, HR, HC⟩ : ∃ r c, Hid (r = l) ∧ Hid (c = (0 : UInt8)) := ⟨l, 0, Lib.hid rfl, Lib.hid rfl⟩
        rw [← HR.out, ← HC.out] at O3 S3 L3
        rw [← HR.out] at hrp
        have c0' : w3.cell? ⟨g, 0, none⟩ = some (.slice (some ⟨bb, 0, none⟩) bs.length cap) := (hb3.cell (p := ⟨g, 0, none⟩) hgl).trans H.out.b.c0
        have hcx' : w3.cell? ⟨bb, k, none⟩ = some (.int .u8 (x.toNat : Int)) := by
          rw [← hcx, hb3.cell (p := ⟨bb, k, none⟩) hbb, hbel.cell (p := ⟨bb, k, none⟩) hbb]
        clear hown2 hgrow HOO HL1 HO HL HS HM n0 c0 hcx hbel HV
        have c0 := c0'
        have hcx := hcx'
        have hbel := hb3
        clear c0' hcx' hb3
        subst h0
        have q2 : (k : Int) % 8 = 0 := by simpa using q3
        have q2' : (k : Int).tmod 8 = 0 := by rw [Int.tmod_eq_emod_of_nonneg (by omega)]; exact q2
        -- from the last byte on
        have hcb : w3.cell? ⟨b, p, none⟩ = some (.int .u8 (c.toNat : Int)) := row_last O3.out hrp
        have hfb : w3.frozen? ⟨b, p, none⟩ = false := O3.out.frozenAt p
        have i1 : (0 : Int) ≤ (p : Int) := by omega
        have i2 : (p : Int) < (p : Int) + 1 := by omega
        have j2 : (k : Int) < (bs.length : Int) := by omega
        obtain ⟨d, ha, H2, H3, H4, H5, _, _⟩ := Bo.put_round r c x.toNat 1 k 0 1 (by rw [hrp]; exact HP.out) (by omega) L3.out (by omega) (by omega) (by omega)
        have S4 : Hid (num (r ++ [d]) = bitN (bs.take (k + 1))) := Lib.hid (text_next S3.out H2 hxx HX.out)
        have L4 := Lib.hid H3
        have N4 := Lib.hid H4
        have a1 := Lib.hid (add_byte c d x 0 (by omega) (last_low (r := r) (by rw [hrp, ← HP.out]; exact L3.out)) ha)
        have O4 : Hid ((w3.setCell ⟨b, p, none⟩ (.int .u8 (d.toNat : Int))).drew.ownsRow w.heap.size 5 1 (.slice (some ⟨b, 0, none⟩) (p + 1) cp) (p + 1) (Bs (r ++ [d]))) := Lib.hid (row_set O3.out hrp)
        have hbW : w.heap.size ≤ b := (O3.out.lt b rfl).1
        have b4 : Hid (Below w.heap.size w (w3.setCell ⟨b, p, none⟩ (.int .u8 (d.toNat : Int))).drew) := Lib.hid ((hbel.setCell hbW _).drew)
        have hrl : Hid ((r ++ [d]).length = p + 1) := Lib.hid (by simp [hrp])
        clear ha H2 H3 H4 H5
        go_wp2_with fail
        go_region
        simp only [Int.pow_zero, Int.mul_one] at a1
        rw [a1.out]
        clear hcb hfb i1 i2 j2 c0 hcx
        generalize (w3.setCell ⟨b, p, none⟩ (.int .u8 (d.toNat : Int))).drew = w4 at *
        go_wp2
        go_roundw
        case rel => exact ⟨k + 1, r ++ [d], by go_num, by omega, Lib.hid (by rw [hrl.out]; exact O4.out), Lib.hid (by rw [N4.out]), S4, L4, b4.out⟩
        case measure => simp [intOf]; omega
      · have q2 : (k : Int) % 8 = (u : Int) := by have := HU.out; omega
        have q2' : (k : Int).tmod 8 = (u : Int) := by rw [Int.tmod_eq_emod_of_nonneg (by omega)]; exact q2
        have q3 : ((k : Int) % 8 == 0) = false := by rw [q2]; simp; omega
        have hl1 : l.length = p + 1 := by have := HL.out; have := HP.out; omega
        obtain ⟨r, c, HR, hrp⟩ : ∃ r c, Hid (l = r ++ [c]) ∧ r.length = p := by
          obtain ⟨r, c, h1, h2⟩ := last_of l p hl1
          exact ⟨r, c, Lib.hid h1, h2⟩
        obtain ⟨b, cp, HV⟩ : ∃ b cp, Hid (u3 = .slice (some ⟨b, 0, none⟩) (p + 1) cp) := by
          rcases HO.out.2 with ⟨_, e⟩ | ⟨b, cp, _, e, _⟩
          · omega
          · exact ⟨b, cp, Lib.hid (by rw [hl1] at e; exact e)⟩
        have hv := HV.out
        subst hv
        have O3 : Hid (wr.ownsRow w.heap.size 5 1 (.slice (some ⟨b, 0, none⟩) (p + 1) cp) (p + 1) (Bs (r ++ [c]))) := Lib.hid (by have h := HO.out; rw [hl1, HR.out] at h; exact h)
        have S3 : Hid (num (r ++ [c]) = bitN (bs.take k)) := Lib.hid (by rw [← HR.out]; exact HS.out)
        have L3 : Hid (num (r ++ [c]) < 2 ^ k) := Lib.hid (by rw [← HR.out]; exact HM.out)
        clear HO HL HS HM HR HV hl1
        generalize wr = w3 at *
        -- from the last byte on
        have hcb : w3.cell? ⟨b, p, none⟩ = some (.int .u8 (c.toNat : Int)) := row_last O3.out hrp
        have hfb : w3.frozen? ⟨b, p, none⟩ = false := O3.out.frozenAt p
        have i1 : (0 : Int) ≤ (p : Int) := by omega
        have i2 : (p : Int) < (p : Int) + 1 := by omega
        have j2 : (k : Int) < (bs.length : Int) := by omega
        obtain ⟨d, ha, H2, H3, H4, H5, _, _⟩ := Bo.put_round r c x.toNat 1 k u 1 (by rw [hrp]; exact HP.out) (by omega) L3.out (by omega) (by omega) (by omega)
        have S4 : Hid (num (r ++ [d]) = bitN (bs.take (k + 1))) := Lib.hid (text_next S3.out H2 hxx HX.out)
        have L4 := Lib.hid H3
        have N4 := Lib.hid H4
        have a1 := Lib.hid (add_byte c d x u (by omega) (last_low (r := r) (by rw [hrp, ← HP.out]; exact L3.out)) ha)
        have O4 : Hid ((w3.setCell ⟨b, p, none⟩ (.int .u8 (d.toNat : Int))).drew.ownsRow w.heap.size 5 1 (.slice (some ⟨b, 0, none⟩) (p + 1) cp) (p + 1) (Bs (r ++ [d]))) := Lib.hid (row_set O3.out hrp)
        have hbW : w.heap.size ≤ b := (O3.out.lt b rfl).1
        have b4 : Hid (Below w.heap.size w (w3.setCell ⟨b, p, none⟩ (.int .u8 (d.toNat : Int))).drew) := Lib.hid ((hbel.setCell hbW _).drew)
        have hrl : Hid ((r ++ [d]).length = p + 1) := Lib.hid (by simp [hrp])
        clear ha H2 H3 H4 H5
        go_wp2_with fail
        go_region
        rw [a1.out]
        clear hcb hfb i1 i2 j2 c0 hcx
        generalize (w3.setCell ⟨b, p, none⟩ (.int .u8 (d.toNat : Int))).drew = w4 at *
        go_wp2
        go_roundw
        case rel => exact ⟨k + 1, r ++ [d], by go_num, by omega, Lib.hid (by rw [hrl.out]; exact O4.out), Lib.hid (by rw [N4.out]), S4, L4, b4.out⟩
        case measure => simp [intOf]; omega
    · obtain rfl : k = bs.length := by omega
      have hcv := own_string (P := Tryz.prog) (dst := 9) Tryz.underlying62 Tryz.underlying5 Tryz.underlying9 HO.out
      have hS : Hid (num l = bitN bs) := Lib.hid (by rw [HS.out, List.take_of_length_le (Nat.le_refl _)])
      obtain ⟨A3, cap3, hv3⟩ := row_form HO.out
      subst hv3
      go_wp2
      go_ret
      exact ⟨l, rfl, hS.out, HL.out, hbel⟩

end Go.Proofs.YtnkninjdpgpkmaaGreatDoor.Bf
