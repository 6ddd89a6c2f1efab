/-
  The reference's Matching (layer 17): the rules whose trees match a text.
  Conditions: as each theorem says.
-/
import Derived.Test.YthjelilmlbbalaaPaq
import Derived.Test.YthjelilmlbbalaaPau
namespace Go.Proofs.Ythjelilmlbbalaa.Ao
open Go.RowKit Go.Proofs.Ythjelilmlbbalaa.Bw Go.Proofs.Ythjelilmlbbalaa.Na Go.Proofs.Ythjelilmlbbalaa.Ko Go.Proofs.Ythjelilmlbbalaa.Rm Go.Proofs.Ythjelilmlbbalaa.Rs Go.Proofs.Ythjelilmlbbalaa.Rv Go.Proofs.Ythjelilmlbbalaa.Ra Go.Proofs.Ythjelilmlbbalaa.Rk Go.Proofs.Ythjelilmlbbalaa.Ap Go.Proofs.Ythjelilmlbbalaa.Av Go.Proofs.Ythjelilmlbbalaa.Ay

/-- The places of the trees that match. -/
def matQ (s : List Nat) (n : Nat) (ts : List T) : Nat → List Int
  | 0 => []
  | i + 1 => matQ s n ts i ++ (match ts[i]? with
    | some t => if pairs s t 0 n = true then [(i : Int)] else []
    | none => [])
theorem matQ_len (s : List Nat) (n : Nat) (ts : List T) : ∀ i, (matQ s n ts i).length ≤ i
  | 0 => by simp [matQ]
  | i + 1 => by
    have := matQ_len s n ts i
    rw [matQ, List.length_append]
    have h2 : (match ts[i]? with | some t => if pairs s t 0 n = true then [(i : Int)] else [] | none => []).length ≤ 1 := by
      split
      · split <;> simp
      · simp
    omega
set_option maxHeartbeats 2000000 in
set_option maxRecDepth 100000 in
theorem Matching_any {A : Option Addr} {cap : Nat} {ts : List T} (hn : ts.length ≤ 1000) (hok : ∀ t ∈ ts, okT t ∧ (enc t).length ≤ 400) {s : ByteArray} (hs : s.size ≤ 50000) {w : World} (H : Hid (ndr w A (ts.map enc))) :
    Calls Try.prog 17 #[.slice A ts.length cap, .string s] w fun e w' => ∃ v, e = .returned v ∧ ints w' w.heap.size 3 v (matQ (nb s.data.toList) s.size ts ts.length) ∧ Below w.heap.size w w' := by
  have HOK := Lib.hid hok
  have HMA : Hid (∀ (u : World) (A : Option Addr) (cap : Nat) (t : T), okT t → (enc t).length ≤ 400 → nds u A (enc t) → Calls Try.prog 39 #[.slice A (enc t).length cap, .string s] u fun e w' => e = .returned (.bool (pairs (nb s.data.toList) t 0 s.size)) ∧ Below u.heap.size u w') := Lib.hid (fun u A cap t h1 h2 h3 => Match_any h1 h2 hs (Lib.hid h3))
  obtain ⟨i0, hii, hz0, hz1, hz2⟩ := info_parts infoI
  obtain ⟨S, hS⟩ : ∃ S, S = nb s.data.toList := ⟨_, rfl⟩
  obtain ⟨n, hsn⟩ : ∃ n, n = s.size := ⟨_, rfl⟩
  rw [← hS, ← hsn] at HMA ⊢
  obtain ⟨N, hN⟩ : ∃ N, N = ts.length := ⟨_, rfl⟩
  have HN := Lib.hid hN
  rw [← hN] at hn ⊢
  clear hok hS hsn hN hs
  go_enter Try.func17, Try.ntmps17
  go_wp2
  go_loopw [5, 6] (fun s5 s6 wr => ∃ (i : Nat) (v5 : Value), s5 = v5 ∧ s6 = .int .i64 (i : Int) ∧ i ≤ N ∧ Hid (ints wr w.heap.size 3 v5 (matQ S n ts i)) ∧ Hid (Below w.heap.size w wr)) (fun _ s6 _ => N - (intOf s6).toNat)
  case atStart => exact ⟨0, _, rfl, rfl, by omega, Lib.hid (ints_nil _ _ _), Lib.hid (Below.refl _ _)⟩
  case round =>
    obtain ⟨i, v5, rfl, rfl, hi, HX, HB⟩ := hrel
    obtain ⟨P, hP⟩ : ∃ P, P = matQ S n ts i := ⟨_, rfl⟩
    have hPL : P.length ≤ 1000 := by rw [hP]; have := matQ_len S n ts i; omega
    rw [← hP] at HX
    have HP := Lib.hid hP
    obtain ⟨A5, c5, hv5⟩ := HX.out.form
    subst hv5
    have HS := Lib.hid HB.out.size
    clear hP
    by_cases hin : i < N
    · have hin' : (i : Int) < (N : Int) := by omega
      have hi0 : (0 : Int) ≤ (i : Int) := by omega
      have HIN := Lib.hid hin
      obtain ⟨t, ht⟩ : ∃ t, ts[i]? = some t := ⟨_, List.getElem?_eq_getElem (by rw [← HN.out]; exact hin)⟩
      have hte : (ts.map enc)[i]? = some (enc t) := by rw [List.getElem?_map, ht]; rfl
      obtain ⟨b, off, rfl, hb, A', c', hrow, _, hnd⟩ := (H.out.below HB.out) i _ hte
      have hok := HOK.out t (List.mem_of_getElem? ht)
      have HC := Lib.hid (HMA.out wr A' c' t hok.1 hok.2 hnd)
      obtain ⟨X, hX⟩ : ∃ X, X = (enc t).length := ⟨_, rfl⟩
      rw [← hX] at hrow HC
      obtain ⟨mb, hmb⟩ : ∃ mb, mb = pairs S t 0 n := ⟨_, rfl⟩
      rw [← hmb] at HC
      have HNX : Hid (matQ S n ts (i + 1) = P ++ (if mb = true then [(i : Int)] else [])) := Lib.hid (by rw [matQ, ht, HP.out, hmb])
      clear hin ht hte hnd hok hX hmb hb
      cases mb with
      | false =>
        go_wp2_with (go_at_call 39; refine HC.out.mono ?_; rintro e w6 ⟨rfl, k6⟩; have K6 := Lib.hid k6; clear k6)
        go_roundw
        case rel => exact ⟨i + 1, _, rfl, by go_num, by have := HIN.out; omega, Lib.hid (by rw [HNX.out, if_neg (by decide), List.append_nil]; exact HX.out.below K6.out), Lib.hid (grows HB.out K6.out)⟩
        case measure => have := HIN.out; simp [intOf]; omega
      | true =>
        go_wp2_with (first | (go_at_call 39; refine HC.out.mono ?_; rintro e w6 ⟨rfl, k6⟩; have K6 := Lib.hid k6; have HX6 := Lib.hid (HX.out.below k6); have HB6 := Lib.hid (grows HB.out k6); clear k6) | (at_builtin; refine wpList_append_own_at _ rfl _ _ 26 rfl w.heap.size 3 i0 (.int .i64 0) 1 8 Try.underlying26 hii hz0 hz1 hz2 rfl (by decide) _ P.length (Is P) rfl (World.ownsRow.alloc HX6.out _) ⟨w6.heap.size, 0, none⟩ 1 1 [.int .i64 (i : Int)] rfl rfl (cell_one_new _ _ _) ?a2 ?a3 ?a4 ?a5 ?_))
        case a2 => first | rfl | (intro q hq; simp at hq; subst hq; rfl)
        case a3 => unfold maxLen; omega
        case a4 => omega
        case a5 => have := HB6.out.size; first | omega | (rw [size_alloc]; omega)
        intro v3 w3 h3 g3 _ _
        obtain ⟨k1, k2⟩ := ints_snoc (w := w) (Nat.le_refl _) HB6.out HX6.out h3 g3
        have K1 := Lib.hid k1
        have K2 := Lib.hid k2
        obtain ⟨A6, c6, hv6⟩ := K1.out.form
        subst hv6
        clear h3 g3 k1 k2
        go_wp2
        go_roundw
        case rel => exact ⟨i + 1, _, rfl, by go_num, by have := HIN.out; omega, Lib.hid (by rw [HNX.out, if_pos trivial]; exact K1.out), K2⟩
        case measure => have := HIN.out; simp [intOf]; omega
    · have hin' : ¬ (i : Int) < (N : Int) := by omega
      have HIE : Hid (i = N) := Lib.hid (by omega)
      clear hin hi
      go_wp2
      go_ret
      exact ⟨_, rfl, by rw [← HIE.out, ← HP.out]; exact HX.out, HB.out⟩
end Go.Proofs.Ythjelilmlbbalaa.Ao
