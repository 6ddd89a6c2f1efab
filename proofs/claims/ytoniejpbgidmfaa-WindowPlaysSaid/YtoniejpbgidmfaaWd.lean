/-
  window: Copy.
  Conditions: as each theorem says.
-/
import Derived.Test.YtoniejpbgidmfaaWo
namespace Go.Proofs.Ytoniejpbgidmfaa.Wd
open Go.RowKit Go.Proofs.Ytoniejpbgidmfaa.Vm Go.Proofs.Ytoniejpbgidmfaa.Vo Go.Proofs.Ytoniejpbgidmfaa.Bw Go.Proofs.Ytoniejpbgidmfaa.Br Go.Proofs.Ytoniejpbgidmfaa.Wr Go.Proofs.Ytoniejpbgidmfaa.Wc Go.Proofs.Ytoniejpbgidmfaa.Ww Go.Proofs.Ytoniejpbgidmfaa.Wx Go.Proofs.Ytoniejpbgidmfaa.Wp Go.Proofs.Ytoniejpbgidmfaa.Wq Go.Proofs.Ytoniejpbgidmfaa.Wn Go.Proofs.Ytoniejpbgidmfaa.Wo

/-- What Copy answers beside the bytes. -/
def copE (m : Nat) (d n : Int) : Int := if n < 0 ∨ 65536 < n ∨ d < 1 then 1 else if (m : Int) < d then 10 else 0
theorem copE_cases (m : Nat) (d n : Int) : (copE m d n = 1 ∧ (n < 0 ∨ 65536 < n ∨ d < 1)) ∨ (copE m d n = 10 ∧ 0 ≤ n ∧ n ≤ 65536 ∧ 1 ≤ d ∧ (m : Int) < d) ∨ (copE m d n = 0 ∧ ∃ D N : Nat, d = (D : Int) ∧ n = (N : Int) ∧ N ≤ 65536 ∧ 1 ≤ D ∧ D ≤ m) := by
  unfold copE
  by_cases h1 : n < 0 ∨ 65536 < n ∨ d < 1
  · rw [if_pos h1]; exact .inl ⟨rfl, h1⟩
  · rw [if_neg h1]
    by_cases h2 : (m : Int) < d
    · rw [if_pos h2]; exact .inr (.inl ⟨rfl, by omega, by omega, by omega, h2⟩)
    · rw [if_neg h2]; exact .inr (.inr ⟨rfl, d.toNat, n.toNat, by omega, by omega, by omega, by omega, by omega⟩)

set_option maxRecDepth 100000 in
theorem Copy_no {base : Nat} {w : World} {g : Nat} {v : Value} {l : List UInt8} {x : Nat} (h : win base w g v l x) (d n : Int) (he : copE l.length d n ≠ 0) :
    Calls Try.prog 13 #[.pointer (some ⟨g, 0, none⟩), .int .i64 d, .int .i64 n] w fun e w' => e = .returned (.tuple #[.string ⟨#[]⟩, .int .i64 (copE l.length d n)]) ∧ w = w' := by
  have hN := Lib.hid (none_any h.b)
  have c1 := h.b.c1
  obtain ⟨A, cap, hv⟩ := h.o.form
  subst hv
  obtain ⟨m, hm⟩ : ∃ m, m = l.length := ⟨_, rfl⟩
  rw [← hm] at c1 he ⊢
  clear hm h
  rcases copE_cases m d n with ⟨e, hc⟩ | ⟨e, h1, h2, h3, h4⟩ | ⟨e, _⟩
  · rw [e]
    clear he e
    rcases (show n < 0 ∨ (0 ≤ n ∧ 65536 < n) ∨ (0 ≤ n ∧ n ≤ 65536 ∧ d < 1) by omega) with h1 | ⟨h0, h1⟩ | ⟨h0, h2, h1⟩
    all_goals
      clear hc
      go_enter Try.func13, Try.ntmps13
      go_wp2_with (go_at_call 20; refine hN.out.mono ?_; rintro e w' ⟨rfl, rfl⟩)
      go_ret2
      exact ⟨rfl, rfl⟩
  · rw [e]
    clear he e
    go_enter Try.func13, Try.ntmps13
    go_wp2_with (go_at_call 20; refine hN.out.mono ?_; rintro e w' ⟨rfl, rfl⟩)
    go_ret2
    exact ⟨rfl, rfl⟩
  · exact absurd e he

/-- What is behind Copy where it copies. -/
def copied (base g : Nat) (v : Value) (c : List UInt8) (D N : Nat) (w : World) (e : Ending) (w' : World) : Prop :=
  e = .returned (.tuple #[.string ⟨(Wm.out c D N).toArray⟩, .int .i64 0]) ∧ ∃ v' l' x', win base w' g v' l' x' ∧ cont l' x' = Wm.put 32768 c (Wm.out c D N) ∧ Only (own g v) w w' ∧ later w v v'

/-- The bytes while they are doubled. -/
structure fill (base : Nat) (w2 : World) (u : Value) (t : List UInt8) (D N E : Nat) (b : List UInt8) (wr : World) : Prop where
  q : ∃ q, E = D * q
  o : byts wr base 5 u b
  len : b.length = N
  r : rept b t D E
  k : Only (of u) w2 wr
theorem fill_start {base : Nat} {w2 : World} {u : Value} {t P : List UInt8} {D N K : Nat} (hK : K = min D N) (ht : t.length = D) (hP : P = splice (List.replicate N 0) 0 (t.take K)) (h : byts w2 base 5 u P) : fill base w2 u t D N D P w2 := by
  have hl : (t.take K).length = K := by rw [List.length_take]; omega
  have hPl : P.length = N := by rw [hP, splice_len, List.length_replicate]; rw [hl, List.length_replicate]; omega
  refine ⟨⟨1, by omega⟩, h, hPl, rept_start ?_, Only.refl _ _⟩
  rw [hPl, ← hK, hP]
  unfold splice
  rw [List.take_zero, List.nil_append, List.take_append_of_le_length (by omega), List.take_take, Nat.min_self]
theorem fill_more {base : Nat} {w2 wr w3 : World} {u : Value} {t b : List UInt8} {D N E k : Nat} (h : fill base w2 u t D N E b wr) (hE : E < N) (hk : k = min E (N - E)) (h3 : byts w3 base 5 u (splice b E (b.take k))) (o3 : Only (of u) wr w3) : fill base w2 u t D N (E * 2) (splice b E (b.take k)) w3 := by
  obtain ⟨q, hq⟩ := h.q
  have hl : (b.take k).length = k := by rw [List.length_take, h.len]; omega
  refine ⟨⟨q * 2, by rw [hq, Nat.mul_assoc]⟩, h3, ?_, ?_, h.k.trans o3⟩
  · rw [splice_len, h.len]; rw [hl, h.len]; omega
  · have hr := h.r
    have e : rept (splice b (D * q) (b.take (min (b.length - D * q) (D * q)))) t D (2 * (D * q)) := rept_more (by rw [h.len, ← hq]; exact hE) (by rw [← hq]; exact hr)
    rw [← hq, h.len, Nat.min_comm, ← hk, Nat.mul_comm] at e
    exact e
theorem later_from {w wr : World} {v v' : Value} (h : later wr v v') (hs : w.heap.size ≤ wr.heap.size) : later w v v' := by
  rcases h with h | ⟨k, hk, h⟩
  · exact .inl h
  · exact .inr ⟨k, by omega, h⟩

set_option maxHeartbeats 2000000 in
set_option maxRecDepth 100000 in
theorem Copy_ok {base : Nat} {w : World} {g : Nat} {v : Value} {l : List UInt8} {x : Nat} (h : win base w g v l x) {D N : Nat} (hN6 : N ≤ 65536) (hD : 1 ≤ D) (hDl : D ≤ l.length) :
    Calls Try.prog 13 #[.pointer (some ⟨g, 0, none⟩), .int .i64 D, .int .i64 N] w (copied base g v (cont l x) D N w) := by
  have hN := Lib.hid (none_any h.b)
  have c1 := h.b.c1
  have hle := h.r.le
  have hmk := made8 N (by omega)
  obtain ⟨Z, hZ⟩ : ∃ Z, Z = zs N := ⟨_, rfl⟩
  have HX := Lib.hid (h.below (alloc_below w (.cells (zs N) 5)))
  have HY := Lib.hid (byts_made (w := w) (e := 5) N (by omega))
  have hvb : v.ownBlock ≠ some w.heap.size := fun e => by have := h.hi _ (.inr e); omega
  have hgb : g ≠ w.heap.size := by have := h.b.lt; omega
  obtain ⟨K, hK⟩ : ∃ K, K = min D N := ⟨_, rfl⟩
  obtain ⟨P, hP⟩ : ∃ P, P = splice (List.replicate N 0) 0 ((Wm.lastN D (cont l x)).take K) := ⟨_, rfl⟩
  have HC := Lib.hid (read_any (b := w.heap.size) (k := K) (oc := N) (d := D) HX.out HY.out rfl hvb (by rw [List.length_replicate]; omega) (by omega) (by omega) hDl)
  have HT : Hid ((Wm.lastN D (cont l x)).length = D) := Lib.hid (by rw [Wm.lastN_length, cont_length]; omega)
  have HCL : Hid (D ≤ (cont l x).length) := Lib.hid (by rw [cont_length]; exact hDl)
  have HWE : Hid (∀ wr, Only (of (.slice (some ⟨w.heap.size, 0, none⟩) N N)) (w.alloc (.cells (zs N) 5)) wr → win base wr g v l x ∧ Below w.heap.size w wr) := Lib.hid (fun wr k => ⟨HX.out.only k (fun i hi e => by
      have e' : some w.heap.size = some i := e
      injection e' with e'
      rcases hi with rfl | hi
      · exact hgb e'.symm
      · exact hvb (by rw [e']; exact hi)), only_new (alloc_below _ _) k rfl (Nat.le_refl _)⟩)
  rw [← hZ] at hmk HC HWE
  rw [← hP] at HC
  clear hZ HX HY
  obtain ⟨A, cap, hv'⟩ := h.o.form
  subst hv'
  obtain ⟨m, hm⟩ : ∃ m, m = l.length := ⟨_, rfl⟩
  rw [← hm] at c1 hDl hle HWE ⊢
  have HK := Lib.hid hK
  have HP := Lib.hid hP
  have d1 : decide ((N : Int) < 0) = false := by simp
  have d2 : decide (65536 < (N : Int)) = false := by simp; omega
  have d3 : decide ((D : Int) < 1) = false := by simp; omega
  clear hm h hK hvb hP hgb
  by_cases hDN : D ≤ N
  all_goals
    first
    | (have hKD : K = D := by have := HK.out; omega)
    | (have hKD : K = N := by have := HK.out; omega)
    have HKD := Lib.hid hKD
    rw [hKD] at HC
    clear hKD
    go_enter Try.func13, Try.ntmps13
    go_wp2_with (first | (go_at_call 20; refine hN.out.mono ?_; rintro e w' ⟨rfl, rfl⟩) | (go_at_call 22; refine HC.out.mono ?_; rintro e w2 ⟨rfl, b2, o2⟩; have B2 := Lib.hid b2; have O2 := Lib.hid o2; clear b2 o2))
    clear c1 hmk d1 d2 d3
    go_loopw [9] (fun s9 wr => ∃ (E : Nat) (b : List UInt8), s9 = .int .i64 E ∧ 1 ≤ E ∧ E ≤ 131072 ∧ Hid (fill w.heap.size w2 (.slice (some ⟨w.heap.size, 0, none⟩) N N) (Wm.lastN D (cont l x)) D N E b wr))
      (fun s9 _ => N - (intOf s9).toNat)
    case atStart => exact ⟨D, P, rfl, hD, by omega, Lib.hid (fill_start HK.out HT.out HP.out B2.out)⟩
    case round =>
      obtain ⟨E, b, rfl, hE1, hE2, HF⟩ := hrel
      by_cases hEN : E < N
      · obtain ⟨O', hcut, hO'⟩ := cut_low (A := some ⟨w.heap.size, 0, none⟩) (cap := N) (Nat.le_of_lt hEN)
        have HO := Lib.hid hO'
        have hcut2 := fun u => cut_high (A := some ⟨w.heap.size, 0, none⟩) (n := N) (Nat.le_of_lt hEN) u
        clear hO'
        go_wp2_with fail
        go_still_tail 6, (by kernel_rfl)
        change wpList _ _ _ _ _ wr.drew
        obtain ⟨k, hk⟩ : ∃ k, k = min E (N - E) := ⟨_, rfl⟩
        have HKK := Lib.hid hk
        clear hk
        refine wpList_copy_sl rfl (.tmp 51) (.tmp 54) 43 43 rfl 5 Try.underlying43 size8 O' (some ⟨w.heap.size, 0, none⟩) (N - E) (N - E) E N rfl rfl k HKK.out w.heap.size (.slice (some ⟨w.heap.size, 0, none⟩) N N) b HF.out.o E (b.take k) ?p0 ?p1 ?p2 ?_
        case p0 => rw [List.length_take, HF.out.len]; have := HKK.out; omega
        case p1 =>
          intro h0
          have := HKK.out
          refine ⟨⟨w.heap.size, rfl, HO.out _ rfl hEN⟩, w.heap.size, 0, rfl, fun j hj => ?_⟩
          have e : wr.drew.cell? ⟨w.heap.size, j, none⟩ = b[j]?.map Vm.B := byts.cell (cap := N) HF.out.o HF.out.len.symm j (by omega)
          rw [List.getElem?_take, if_pos hj, Nat.zero_add]
          exact e
        case p2 => rw [HF.out.len]; have := HKK.out; omega
        intro w3 B3 O3
        have HF3 := Lib.hid (fill_more HF.out hEN HKK.out B3.out (undrew O3.out))
        clear hcut hcut2
        go_wp2
        go_roundw
        case rel => exact ⟨E * 2, _, by go_num, by omega, by omega, HF3⟩
        case measure => simp [intOf]; omega
      · have hcv := own_string (P := Try.prog) (dst := 9) Try.underlying43 Try.underlying5 Try.underlying9 HF.out.o
        have hbo : b = Wm.out (cont l x) D N := by
          have e := rept_out hD HCL.out (by rw [HF.out.len]; omega) HF.out.r
          rw [HF.out.len] at e
          exact e
        obtain ⟨W1, W2⟩ := HWE.out wr (O2.out.trans HF.out.k)
        obtain ⟨S, hS⟩ : ∃ S : ByteArray, S = ⟨b.toArray⟩ := ⟨_, rfl⟩
        rw [← hS] at hcv
        have hSl : S.data.toList = b := by rw [hS]
        have hss : S.size ≤ 9223372036854775807 := by rw [← size_len, hSl, HF.out.len]; omega
        have HPU := Lib.hid (Put_any W1 S hss)
        have HB2 := Lib.hid W2
        have HSL := Lib.hid (hSl.trans hbo)
        have HS : Hid (S = ⟨(Wm.out (cont l x) D N).toArray⟩) := Lib.hid (by rw [hS, hbo])
        clear hbo W1 W2 hS hSl hss
        go_wp2_with (go_at_call 12; refine HPU.out.mono ?_; rintro e w4 ⟨rfl, v4, l4, x4, h1, h2, h3, h4⟩; have H1 := Lib.hid h1; have H2 := Lib.hid h2; have H3 := Lib.hid h3; have H4 := Lib.hid h4; clear h1 h2 h3 h4)
        go_ret2
        refine ⟨ret_str_int HS.out rfl, v4, l4, x4, H1.out, ?_, (Only.of_below HB2.out).trans H3.out, later_from H4.out HB2.out.size⟩
        rw [← HSL.out]
        exact H2.out
end Go.Proofs.Ytoniejpbgidmfaa.Wd
