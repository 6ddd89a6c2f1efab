/-
  gzhead's cursor: sum; begin: the byte after the magic, or what is wrong of a header's first bytes.
  Conditions: as each theorem says.
-/
import Derived.Test.YtgilfjojimgpaaaQj
namespace Go.Proofs.Ytgilfjojimgpaaa.Ql
open Go.RowKit Go.Proofs.Ytgilfjojimgpaaa.Vm Go.Proofs.Ytgilfjojimgpaaa.Vo Go.Proofs.Ytgilfjojimgpaaa.Vf Go.Proofs.Ytgilfjojimgpaaa.Bw Go.Proofs.Ytgilfjojimgpaaa.Bm Go.Proofs.Ytgilfjojimgpaaa.Qm Go.Proofs.Ytgilfjojimgpaaa.Qa Go.Proofs.Ytgilfjojimgpaaa.Qb Go.Proofs.Ytgilfjojimgpaaa.Qc Go.Proofs.Ytgilfjojimgpaaa.Qd Go.Proofs.Ytgilfjojimgpaaa.Qe Go.Proofs.Ytgilfjojimgpaaa.Qh Go.Proofs.Ytgilfjojimgpaaa.Qi Go.Proofs.Ytgilfjojimgpaaa.Qj

/-- What sum leaves: the place and the error. -/
def smR (l : List UInt8) (b a : Nat) (e : Int) : Nat × Int :=
  if e ≠ 0 then (a, e) else if l.length - a < 2 then (a, 2) else if num ((l.drop a).take 2) ≠ crl ((l.drop b).take (a - b)) % 65536 then (a + 2, 5) else (a + 2, 0)
theorem cut_two {S : ByteArray} {a b : Nat} (h : a ≤ b) (hb : b ≤ S.size) (u : World) : (Instr.slice 9 (.string S) (some (.int .i64 (a : Int))) (some (.int .i64 (b : Int))) none).run Try.prog u = .ok (.string (S.extract a b)) u := by
  obtain ⟨n, rfl⟩ : ∃ n, b = a + n := ⟨b - a, by omega⟩
  exact cut_mid hb rfl u
section
variable {w : World} {g : Nat} {s : ByteArray} {a : Nat} {f e : Int}
set_option maxRecDepth 100000 in
theorem sum_any {b : Nat} (h : cu w g s a f e) (hs : s.size ≤ 281474976710656) (ha : a ≤ s.size) (hba : b ≤ a) :
    Calls Try.prog 31 #[.pointer (some ⟨g, 0, none⟩), .int .i64 (b : Int)] w fun e' w' => e' = .returned (.tuple #[]) ∧ cu w' g s (smR s.data.toList b a e).1 f (smR s.data.toList b a e).2 ∧ Only (At g) w w' := by
  have HN := Lib.hid (number_any 2 h (.inr (.inl rfl)) hs ha)
  have c1 := h.c1
  have hle := len_eq s
  by_cases he : e = 0
  · subst he
    by_cases h2 : s.size < a + 2
    · rw [show nuR s.data.toList a 0 2 = (0, a, 2) by unfold nuR; rw [if_neg (by simp), if_pos (by omega)]] at HN
      have HZ := Lib.hid (show smR s.data.toList b a 0 = (a, 2) by unfold smR; rw [if_neg (by simp), if_pos (by omega)])
      clear h h2 hle
      go_enter Try.func31, Try.ntmps31
      go_wp2_with fail
      refine HN.out.mono ?_
      rintro e' w1 ⟨rfl, D, O⟩
      have c3 := D.c3
      have HD := Lib.hid D; have HO := Lib.hid O
      clear D O
      go_wp2
      go_end0
      exact ⟨rfl, by rw [HZ.out]; exact HD.out, HO.out⟩
    · obtain ⟨N, hN⟩ : ∃ N, N = num ((s.data.toList.drop a).take 2) := ⟨_, rfl⟩
      rw [show nuR s.data.toList a 0 2 = ((N : Int), a + 2, 0) by unfold nuR; rw [if_neg (by simp), if_neg (by omega), hN]] at HN
      obtain ⟨z, hz⟩ : ∃ z, z = sumF (s.extract b a) := ⟨_, rfl⟩
      have HC := Lib.hid (fun u => checksum_sum (s.extract b a) u (by rw [ByteArray.size_extract]; omega))
      rw [← hz] at HC
      have hzc : z = ((crl ((s.data.toList.drop b).take (a - b)) % 65536 : Nat) : Int) := by rw [hz]; unfold sumF; rw [ext_list]
      have hsl := cut_two (S := s) hba ha
      generalize s.extract b a = S at *
      by_cases h3 : (N : Int) = z
      · have HZ := Lib.hid (show smR s.data.toList b a 0 = (a + 2, 0) by unfold smR; rw [if_neg (by simp), if_neg (by omega), if_neg (by rw [← hN]; omega)])
        have hq : ((N : Int) != z) = false := by simpa using h3
        clear h hle hN h3 h2 hz hzc
        go_enter Try.func31, Try.ntmps31
        go_wp2_with fail
        refine HN.out.mono ?_
        rintro e' w1 ⟨rfl, D, O⟩
        have c3 := D.c3; have c0 := D.c0
        have HD := Lib.hid D; have HO := Lib.hid O
        clear D O
        go_wp2_with (go_at_call 18; refine (HC.out _).mono ?_; rintro e' w2 ⟨rfl, hb⟩)
        go_end0
        exact ⟨rfl, by rw [HZ.out]; exact HD.out.below hb, HO.out.trans (Only.of_below hb)⟩
      · have HZ := Lib.hid (show smR s.data.toList b a 0 = (a + 2, 5) by unfold smR; rw [if_neg (by simp), if_neg (by omega), if_pos (by rw [← hN]; omega)])
        have hq : ((N : Int) != z) = true := by simpa using h3
        clear h hle hN h3 h2 hz hzc
        go_enter Try.func31, Try.ntmps31
        go_wp2_with fail
        refine HN.out.mono ?_
        rintro e' w1 ⟨rfl, D, O⟩
        have c3 := D.c3; have c0 := D.c0
        have HD := Lib.hid D; have HO := Lib.hid O
        clear D O
        go_wp2_with (go_at_call 18; refine (HC.out _).mono ?_; rintro e' w2 ⟨rfl, hb⟩; have D2 := Lib.hid (HD.out.below hb); have c3 := D2.out.c3; have f3 := D2.out.f3; have HO2 := Lib.hid (HO.out.trans (Only.of_below hb)); clear hb)
        go_end0
        exact ⟨rfl, by rw [HZ.out]; exact D2.out.err 5, Only.put HO2.out 3 _⟩
  · rw [show nuR s.data.toList a e 2 = (0, a, e) by unfold nuR; rw [if_pos he]] at HN
    have HZ := Lib.hid (show smR s.data.toList b a e = (a, e) by unfold smR; rw [if_pos he])
    have hne : (e == 0) = false := by simpa using he
    clear h hle he
    go_enter Try.func31, Try.ntmps31
    go_wp2_with fail
    refine HN.out.mono ?_
    rintro e' w1 ⟨rfl, D, O⟩
    have c3 := D.c3
    have HD := Lib.hid D; have HO := Lib.hid O
    clear D O
    go_wp2
    go_end0
    exact ⟨rfl, by rw [HZ.out]; exact HD.out, HO.out⟩
end

/-- What begin answers: the flags and the error. -/
def bgR (l : List UInt8) (a : Int) : Int × Int :=
  if a < 0 then (0, 1) else if (l.length : Int) - a < 10 then (0, 2) else if (l.drop a.toNat).take 3 ≠ [31, 139, 8] then (0, 12) else if 32 ≤ ((l.drop a.toNat).getD 3 0).toNat then (0, 13) else ((((l.drop a.toNat).getD 3 0).toNat : Nat), 0)
set_option maxRecDepth 100000 in
theorem begin_any (s : ByteArray) (a : Int) (w : World) (hs : s.size ≤ 281474976710656) (h0 : -9223372036854775808 ≤ a) (h1 : a ≤ 9223372036854775807) :
    Calls Try.prog 26 #[.string s, .int .i64 a] w fun e w' => e = .returned (.tuple #[.int .i64 (bgR s.data.toList a).1, .int .i64 (bgR s.data.toList a).2]) ∧ w = w' := by
  have hle := len_eq s
  by_cases ha : a < 0
  · have HZ := Lib.hid (show bgR s.data.toList a = (0, 1) from if_pos ha)
    clear hle
    go_enter Try.func26, Try.ntmps26
    go_wp2
    go_ret2
    exact ⟨ret_int2 (by rw [HZ.out]) (by rw [HZ.out]), rfl⟩
  · obtain ⟨p, rfl⟩ := Int.eq_ofNat_of_zero_le (show 0 ≤ a by omega)
    have hbg : bgR s.data.toList (p : Int) = if (s.size : Int) - (p : Int) < 10 then (0, 2) else if (s.data.toList.drop p).take 3 ≠ [31, 139, 8] then (0, 12) else if 32 ≤ ((s.data.toList.drop p).getD 3 0).toNat then (0, 13) else (((((s.data.toList.drop p).getD 3 0).toNat : Nat) : Int), 0) := by
      unfold bgR
      rw [if_neg ha, hle, Int.toNat_natCast]
    have q1 : IntKind.i64.wrap ((s.size : Int) - (p : Int)) = (s.size : Int) - (p : Int) := by rw [IntWalk.i64_left]; exact IntWalk.wrap64_in _ ⟨by omega, by omega⟩
    by_cases h10 : (s.size : Int) - (p : Int) < 10
    · have HZ := Lib.hid (show bgR s.data.toList (p : Int) = (0, 2) by rw [hbg, if_pos h10])
      clear hle hbg
      go_enter Try.func26, Try.ntmps26
      go_wp2
      go_ret2
      exact ⟨ret_int2 (by rw [HZ.out]) (by rw [HZ.out]), rfl⟩
    · have hsl := cut_high (S := s) (k := p) (by omega)
      have hpr := Lib.hid (fun u => HasPrefix_any (s.extract p s.size) ⟨#[31, 139, 8]⟩ u (by rw [ByteArray.size_extract]; show 3 ≤ _; omega))
      have hp48 : p ≤ 281474976710656 := by omega
      obtain ⟨bm, hbm⟩ : ∃ bm, bm = decide ((s.data.toList.drop p).take 3 = [31, 139, 8]) := ⟨_, rfl⟩
      rw [high_list] at hpr
      have HPR : Hid (∀ u, Calls Try.prog 39 #[.string (s.extract p s.size), .string ⟨#[31, 139, 8]⟩] u fun e w' => e = .returned (.bool bm) ∧ u = w') := Lib.hid (fun u => by rw [hbm]; exact hpr.out u)
      clear hpr
      generalize s.extract p s.size = S at *
      cases bm
      · have HZ := Lib.hid (show bgR s.data.toList (p : Int) = (0, 12) by rw [hbg, if_neg h10, if_pos (of_decide_eq_false hbm.symm)])
        clear hle hbg hbm
        go_enter Try.func26, Try.ntmps26
        go_wp2_with (go_at_call 39; refine (HPR.out _).mono ?_; rintro e' w2 ⟨rfl, rfl⟩)
        go_ret2
        exact ⟨ret_int2 (by rw [HZ.out]) (by rw [HZ.out]), rfl⟩
      · have hlt : p + 3 < s.size := by omega
        obtain ⟨x, hx⟩ : ∃ x : UInt8, s[p + 3]'hlt = x := ⟨_, rfl⟩
        have hg : (s.data.toList.drop p).getD 3 0 = x := by
          rw [List.getD_eq_getElem?_getD, List.getElem?_drop, List.getElem?_eq_getElem (by rw [hle]; exact hlt), ← hx]; rfl
        rw [hg, if_neg h10, if_neg (fun k => k (of_decide_eq_true hbm.symm))] at hbg
        have hxr : (x.toNat : Int) ≤ 255 := by have := x.toNat_lt; omega
        by_cases h32 : 32 ≤ x.toNat
        · have HZ := Lib.hid (show bgR s.data.toList (p : Int) = (0, 13) by rw [hbg, if_pos h32])
          have hk : (32 : Int) ≤ (x.toNat : Int) := by omega
          clear hle hbg hbm hg
          go_enter Try.func26, Try.ntmps26
          go_wp2_with (go_at_call 39; refine (HPR.out _).mono ?_; rintro e' w2 ⟨rfl, rfl⟩)
          go_ret2
          exact ⟨ret_int2 (by rw [HZ.out]) (by rw [HZ.out]), rfl⟩
        · have HZ := Lib.hid (show bgR s.data.toList (p : Int) = (((x.toNat : Nat) : Int), 0) by rw [hbg, if_neg h32])
          have hk : ¬ (32 : Int) ≤ (x.toNat : Int) := by omega
          clear hle hbg hbm hg
          go_enter Try.func26, Try.ntmps26
          go_wp2_with (go_at_call 39; refine (HPR.out _).mono ?_; rintro e' w2 ⟨rfl, rfl⟩)
          go_ret2
          exact ⟨ret_int2 (by rw [HZ.out]) (by rw [HZ.out]), rfl⟩
end Go.Proofs.Ytgilfjojimgpaaa.Ql
