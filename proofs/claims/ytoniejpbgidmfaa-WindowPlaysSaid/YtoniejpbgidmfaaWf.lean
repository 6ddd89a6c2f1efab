/-
  The reference's window: Copy.
  Conditions: as each theorem says.
-/
import Derived.Test.YtoniejpbgidmfaaWe
import Derived.Test.YtoniejpbgidmfaaWg
namespace Go.Proofs.Ytoniejpbgidmfaa.Wf
open Go.RowKit Go.Proofs.Ytoniejpbgidmfaa.Vm Go.Proofs.Ytoniejpbgidmfaa.Vo Go.Proofs.Ytoniejpbgidmfaa.Bw Go.Proofs.Ytoniejpbgidmfaa.Ba Go.Proofs.Ytoniejpbgidmfaa.Wr Go.Proofs.Ytoniejpbgidmfaa.Wc Go.Proofs.Ytoniejpbgidmfaa.Ww Go.Proofs.Ytoniejpbgidmfaa.Wx Go.Proofs.Ytoniejpbgidmfaa.Wd Go.Proofs.Ytoniejpbgidmfaa.We Go.Proofs.Ytoniejpbgidmfaa.Wg

theorem rwin.below {w w' : World} {r : Nat} {s : ByteArray} (h : rwin w r s) (k : Below w.heap.size w w') : rwin w' r s := Blk.below h k
theorem rwin.only {S : Nat → Prop} {w w' : World} {r : Nat} {s : ByteArray} (h : rwin w r s) (k : Only S w w') (hr : ¬ S r) : rwin w' r s := Blk.only h k hr
theorem rwin.lt {w : World} {r : Nat} {s : ByteArray} (h : rwin w r s) : r < w.heap.size := Blk.lt h

set_option maxRecDepth 100000 in
theorem rCopy_no {w : World} {r : Nat} {s : ByteArray} (h : rwin w r s) (d n : Int) (he : copE s.size d n ≠ 0) :
    Calls Try.prog 14 #[.pointer (some ⟨r, 0, none⟩), .int .i64 d, .int .i64 n] w fun e w' => e = .returned (.tuple #[.string ⟨#[]⟩, .int .i64 (copE s.size d n)]) ∧ w = w' := by
  have c0 : w.cell? ⟨r, 0, none⟩ = some (.string s) := Blk.cell h 0
  clear h
  rcases copE_cases s.size d n with ⟨e, hc⟩ | ⟨e, h1, h2, h3, h4⟩ | ⟨e, _⟩
  · rw [e]
    clear he e
    rcases (show n < 0 ∨ (0 ≤ n ∧ 65536 < n) ∨ (0 ≤ n ∧ n ≤ 65536 ∧ d < 1) by omega) with h1 | ⟨h0, h1⟩ | ⟨h0, h2, h1⟩
    all_goals
      clear hc
      go_enter Try.func14, Try.ntmps14
      go_wp2
      go_ret2
      exact ⟨rfl, rfl⟩
  · rw [e]
    clear he e
    go_enter Try.func14, Try.ntmps14
    go_wp2
    go_ret2
    exact ⟨rfl, rfl⟩
  · exact absurd e he

/-- 'string(b[x:])'. -/
theorem part_string {w : World} {base : Nat} {A A' : Option Addr} {n cap x : Nat} {l : List UInt8} (h : byts w base 5 (.slice A n cap) l) (hn : n = l.length) (hx : x ≤ n) (hA : ∀ g, A = some ⟨g, 0, none⟩ → x < cap → A' = some ⟨g, x, none⟩) :
    (convert 43 9 (.slice A' (n - x) (cap - x))).run Try.prog w = .ok (.string ⟨(l.drop x).toArray⟩) w := by
  have hl : (l.drop x).length = n - x := by rw [List.length_drop, hn]
  by_cases h0 : n - x = 0
  · have e : l.drop x = [] := List.eq_nil_of_length_eq_zero (by omega)
    rw [e, h0]
    cases A' with
    | none => exact Lib.run_convert_nil_bytes w _ _ 5 _ Try.underlying43 Try.underlying5 Try.underlying9
    | some a => exact run_convert_bytes_back w _ _ 5 a _ [] Try.underlying43 Try.underlying5 Try.underlying9 (fun j hj => absurd hj (by simp))
  · have hc := cap_le h hn
    obtain ⟨g, cap', e, _⟩ := h.block (by omega)
    injection e with e1 _ _
    have e2 := hA g e1 (by omega)
    subst e1 e2
    rw [← hl]
    refine run_convert_bytes_back w _ _ 5 ⟨g, x, none⟩ _ (l.drop x) Try.underlying43 Try.underlying5 Try.underlying9 (fun j hj => ?_)
    have e3 : ((⟨g, x, none⟩ : Addr).add j) = ⟨g, x + j, none⟩ := by simp [Addr.add]
    rw [e3, byts.cell h hn (x + j) (by omega)]
    have hlt : x + j < l.length := by omega
    rw [List.getElem?_eq_getElem hlt, List.getElem_drop]
    rfl

set_option maxHeartbeats 1000000 in
set_option maxRecDepth 100000 in
theorem rCopy_ok {w : World} {r : Nat} {s : ByteArray} (h : rwin w r s) (hs : s.size ≤ 100000) {D N : Nat} (hN : N ≤ 65536) (hD : 1 ≤ D) (hDl : D ≤ s.size) :
    Calls Try.prog 14 #[.pointer (some ⟨r, 0, none⟩), .int .i64 D, .int .i64 N] w fun e w' => e = .returned (.tuple #[.string ⟨(Wm.out s.data.toList D N).toArray⟩, .int .i64 0]) ∧ ∃ s', rwin w' r s' ∧ s'.data.toList = Wm.put 32768 s.data.toList (Wm.out s.data.toList D N) ∧ Only (fun k => k = r) w w' := by
  obtain ⟨i0, hi, hz0, hz1, hz2⟩ := info_parts info8
  have c0 : w.cell? ⟨r, 0, none⟩ = some (.string s) := Blk.cell h 0
  have HR := Lib.hid h
  have d1 : decide ((N : Int) < 0) = false := by simp
  have d2 : decide (65536 < (N : Int)) = false := by simp; omega
  have d3 : decide ((D : Int) < 1) = false := by simp; omega
  obtain ⟨c, hc⟩ : ∃ c, c = s.data.toList := ⟨_, rfl⟩
  have hcl : c.length = s.size := by rw [hc, size_len]
  rw [← hc]
  have HCL := Lib.hid hcl
  have HCC := Lib.hid hc
  clear h hc hcl
  go_enter Try.func14, Try.ntmps14
  go_wp2_with (at_builtin; refine wpList_str_at _ rfl _ _ 43 9 rfl w.heap.size 5 i0 Try.underlying43 Try.underlying9 hi hz0 hz1 hz2 (.slice none 0 0) 0 (Bs []) rfl (World.ownsRow_nil _ _ _ _) s rfl ?a3 ?a4 (Nat.le_refl _) ?_)
  case a3 => unfold maxLen; omega
  case a4 => omega
  intro v1 w1 hown1 hgrow1 _
  have R1 := byts_more (t := c) (l := []) (by rw [HCC.out]; rfl) (Below.refl w.heap.size w) (Nat.le_refl _) (World.ownsRow_nil _ _ _ _) (show w1.ownsRow _ _ 1 v1 (0 + s.size) _ by rw [Nat.zero_add]; exact hown1) hgrow1
  obtain ⟨A1, cap1, hv1⟩ := byts.form R1.1
  subst hv1
  have HR1 := Lib.hid R1
  clear hown1 hgrow1 R1 d1 d2 d3 c0
  go_wp2
  go_loopw [8, 9] (fun s8 s9 wr => ∃ (k : Nat) (A : Option Addr) (m cap : Nat), s9 = .int .i64 k ∧ k ≤ N ∧ s8 = .slice A m cap ∧ m ≤ 165536 ∧ D ≤ m ∧ Hid (m = c.length + k) ∧ Hid (byts wr w.heap.size 5 (.slice A m cap) (Wm.ext c D k)) ∧ Hid (Below w.heap.size w wr)) (fun _ s9 _ => N - (intOf s9).toNat)
  case atStart => exact ⟨0, A1, c.length, cap1, rfl, Nat.zero_le _, rfl, by rw [HCL.out]; omega, by rw [HCL.out]; omega, Lib.hid rfl, Lib.hid HR1.out.1, Lib.hid HR1.out.2⟩
  case round =>
    obtain ⟨k, A, m, cap, rfl, hk, rfl, hm, hDm, HM, HO, HB⟩ := hrel
    have HL : Hid ((Wm.ext c D k).length = m) := Lib.hid (by rw [Wm.ext_length, HM.out])
    by_cases hkN : k < N
    · obtain ⟨g, hg⟩ : ∃ g, A = some ⟨g, 0, none⟩ := by
        obtain ⟨g, cap', e1, hg0, hg1, hgc⟩ := HO.out.block (by rw [HL.out]; omega)
        injection e1 with e1 _ _
        exact ⟨g, e1⟩
      subst hg
      obtain ⟨X, hX⟩ : ∃ X, X = Wm.ext c D k := ⟨_, rfl⟩
      obtain ⟨J, hJ⟩ : ∃ J, J = m - D := ⟨_, rfl⟩
      have hJI : (m : Int) - (D : Int) = (J : Int) := by omega
      have hJm : J < m := by omega
      obtain ⟨b, hb⟩ : ∃ b : UInt8, b = X.getD J 0 := ⟨_, rfl⟩
      have hcell : wr.cell? ⟨g, J, none⟩ = some (.int .u8 (b.toNat : Int)) := by
        have hlt : J < (Wm.ext c D k).length := by rw [HL.out]; exact hJm
        rw [byts.cell HO.out HL.out.symm J hJm, List.getElem?_eq_getElem hlt, hb, hX, List.getD_eq_getElem?_getD, List.getElem?_eq_getElem hlt]
        rfl
      have HNX : Hid (Wm.ext c D (k + 1) = X ++ [b]) := Lib.hid (by rw [Wm.ext, ← hX, hb, hJ]; congr 3; rw [hX, HL.out])
      have hO : wr.ownsRow w.heap.size 5 1 (.slice (some ⟨g, 0, none⟩) m cap) X.length (Bs X) := by rw [hX]; exact HO.out
      have HXL : Hid (X.length = m) := Lib.hid (by rw [hX, HL.out])
      have hxl : X.length ≤ 165536 := by rw [HXL.out]; exact hm
      have HJ := Lib.hid hJ
      have HX := Lib.hid hX
      have hB := HB.out.size
      clear hX hb hJ
      go_wp2_with (at_builtin; refine wpList_append_own _ rfl _ _ 43 rfl w.heap.size 5 i0 (.int .u8 0) 1 1 Try.underlying43 hi hz0 hz1 hz2 rfl (by decide) _ _ _ rfl (hO.alloc _) ⟨wr.heap.size, 0, none⟩ 1 1 [B b] rfl rfl (cell_one_new _ _ _) ?c2 ?c3 ?c4 ?c5 ?_)
      case c2 => intro u hu; simp at hu; subst hu; rfl
      case c3 => unfold maxLen; omega
      case c4 => omega
      case c5 => simp; omega
      intro v' w2 hown' hgrow _
      have R := own_snoc (Nat.le_refl _) HB.out hO hown' hgrow
      rw [← HNX.out] at R
      obtain ⟨A2, cap2, hv2⟩ := byts.form R.1
      subst hv2
      have HR2 := Lib.hid R
      clear hown' hgrow hO hcell R
      go_wp2
      go_roundw
      case rel => exact ⟨k + 1, A2, (Wm.ext c D (k + 1)).length, cap2, by go_num, by omega, rfl, by rw [Wm.ext_length]; have := HM.out; have := HCL.out; omega, by rw [Wm.ext_length]; have := HM.out; omega, Lib.hid (by rw [Wm.ext_length]), Lib.hid HR2.out.1, Lib.hid HR2.out.2⟩
      case measure => simp [intOf]; omega
    · have hkk : k = N := by omega
      subst hkk
      obtain ⟨J, hJ⟩ : ∃ J, J = m - k := ⟨_, rfl⟩
      have hJI : (m : Int) - (k : Int) = (J : Int) := by have := HM.out; omega
      have hJm : J ≤ m := by omega
      have hJc : J = c.length := by have := HM.out; omega
      obtain ⟨A', hcut, hA'⟩ := cut_low (A := A) (cap := cap) hJm
      have hcv := part_string HO.out HL.out.symm hJm hA'
      obtain ⟨S, hS⟩ : ∃ S : ByteArray, S = ⟨((Wm.ext c D k).drop J).toArray⟩ := ⟨_, rfl⟩
      rw [← hS] at hcv
      have hSl : S.data.toList = Wm.out c D k := by rw [hS, hJc]; rfl
      have hSe : S = ⟨(Wm.out c D k).toArray⟩ := by rw [hS, hJc]; rfl
      have hSz : S.size ≤ 1000000 := by rw [← size_len, hSl, Wm.out_length]; omega
      have HP := Lib.hid (rPut_any (HR.out.below HB.out) S (by omega) hSz)
      have HSl := Lib.hid hSl
      have HSe := Lib.hid hSe
      clear hS hSl hSe hSz hJ hJc hA'
      go_wp2_with (first | (refine wpList_cut rfl (.tmp 49) (.tmp 53) rfl (.slice A m cap) (.int .i64 J) (.slice A' (m - J) (cap - J)) rfl rfl hcut ?_) | (go_at_call 9; refine HP.out.mono ?_; rintro e w3 ⟨rfl, s3, h3, e3, o3⟩; have H3 := Lib.hid h3; have E3 := Lib.hid e3; have O3 := Lib.hid o3; clear h3 e3 o3))
      go_ret2
      refine ⟨ret_str_int HSe.out rfl, s3, H3.out, ?_, (Only.of_below HB.out).trans O3.out⟩
      rw [E3.out, HSl.out, HCC.out]
end Go.Proofs.Ytoniejpbgidmfaa.Wf
