/-
  The reference's show: a tree as text.
  The program's Show.
  The reference's Show.
  The four texts of the law file's known().
  The law file's known().
  What the laws of layer 15 need beside the calls: a shown tree's bytes; nodes that are a right tree or none; both Shows' answer.
  Conditions: as each theorem says.
-/
import Derived.Test.YtabcehifdomolaaDoorQan
import Derived.Test.YtabcehifdomolaaDoorQas
import Derived.Test.YtabcehifdomolaaDoorQak
import Derived.Test.YtabcehifdomolaaDoorQat
import Derived.Test.YtabcehifdomolaaDoorQal
import Derived.Test.YtabcehifdomolaaDoorQar
import Derived.Test.YtabcehifdomolaaDoorQaj
namespace Go.Proofs.YtabcehifdomolaaDoor.Rc
open Go.RowKit Go.Proofs.YtabcehifdomolaaDoor.Vm Go.Proofs.YtabcehifdomolaaDoor.Vo Go.Proofs.YtabcehifdomolaaDoor.Bw Go.Proofs.YtabcehifdomolaaDoor.Na Go.Proofs.YtabcehifdomolaaDoor.Ko Go.Proofs.YtabcehifdomolaaDoor.Tm Go.Proofs.YtabcehifdomolaaDoor.Ts Go.Proofs.YtabcehifdomolaaDoor.Ta Go.Proofs.YtabcehifdomolaaDoor.Tb Go.Proofs.YtabcehifdomolaaDoor.Tf Go.Proofs.YtabcehifdomolaaDoor.Tn Go.Proofs.YtabcehifdomolaaDoor.Rm Go.Proofs.YtabcehifdomolaaDoor.Rs Go.Proofs.YtabcehifdomolaaDoor.Rv Go.Proofs.YtabcehifdomolaaDoor.Ra Go.Proofs.YtabcehifdomolaaDoor.Re Go.Proofs.YtabcehifdomolaaDoor.Rf Go.Proofs.YtabcehifdomolaaDoor.Rk Go.Proofs.YtabcehifdomolaaDoor.Rn Go.Proofs.YtabcehifdomolaaDoor.Ro Go.Proofs.YtabcehifdomolaaDoor.Etb Go.Proofs.YtabcehifdomolaaDoor.Esg Go.Proofs.YtabcehifdomolaaDoor.Esh

theorem txC_app : ∀ a b : List T, Rt.txC (a ++ b) = Rt.txC a ++ Rt.txC b
  | [], b => by rw [Rt.txC]; rfl
  | t :: a, b => by rw [List.cons_append, Rt.txC, Rt.txC, txC_app a b, List.append_assoc]
theorem txB_app : ∀ a b : List T, Rt.txB (a ++ b) = Rt.txB a ++ Rt.txB b
  | [], b => by rw [Rt.txB]; rfl
  | t :: a, b => by rw [List.cons_append, Rt.txB, Rt.txB, txB_app a b, List.cons_append, List.append_assoc]
theorem txA_app {a : List T} (h : a ≠ []) (b : List T) : Rt.txA (a ++ b) = Rt.txA a ++ Rt.txB b := by
  match a, h with
  | t :: a, _ => rw [List.cons_append, Rt.txA, Rt.txA, txB_app, List.append_assoc]
theorem txC_snoc {ts : List T} {j : Nat} {u : T} (h : ts[j]? = some u) : Rt.txC (ts.take (j + 1)) = Rt.txC (ts.take j) ++ Rt.par (Rt.isAlt u || Rt.isCat u) (Rt.tx u) := by
  rw [List.take_add_one, h]
  show Rt.txC (ts.take j ++ [u]) = _
  rw [txC_app, Rt.txC, Rt.txC, List.append_nil]
theorem txA_one {ts : List T} {u : T} (h : ts[0]? = some u) : Rt.txA (ts.take 1) = Rt.par (Rt.isAlt u) (Rt.tx u) := by
  rw [List.take_add_one, h]
  show Rt.txA [u] = _
  rw [Rt.txA, Rt.txB, List.append_nil]
theorem txA_snoc {ts : List T} {j : Nat} {u : T} (hj : 0 < j) (h : ts[j]? = some u) : Rt.txA (ts.take (j + 1)) = Rt.txA (ts.take j) ++ (124 :: Rt.par (Rt.isAlt u) (Rt.tx u)) := by
  rw [List.take_add_one, h]
  show Rt.txA (ts.take j ++ [u]) = _
  have hl := (List.getElem?_eq_some_iff.1 h).1
  rw [txA_app (fun e => by have := congrArg List.length e; rw [List.length_take, List.length_nil] at this; omega), Rt.txB, Rt.txB, List.append_nil]
theorem txC_le (ts : List T) (j : Nat) : (Rt.txC (ts.take j)).length ≤ (Rt.txC ts).length := by
  have h := congrArg List.length (txC_app (ts.take j) (ts.drop j))
  rw [List.take_append_drop, List.length_append] at h
  omega
theorem txA_le (ts : List T) (j : Nat) : (Rt.txA (ts.take j)).length ≤ (Rt.txA ts).length := by
  by_cases e : ts.take j = []
  · rw [e, Rt.txA]; exact Nat.zero_le _
  · have h := congrArg List.length (txA_app e (ts.drop j))
    rw [List.take_append_drop, List.length_append] at h
    omega
theorem par_t (l : List Nat) : (⟨#[40]⟩ : ByteArray) ++ str l ++ ⟨#[41]⟩ = str (Rt.par true l) := by
  show str [40] ++ str l ++ str [41] = _
  rw [str_app, str_app]; rfl
/-- A tree's kind. -/
def kd (u : T) : Int := (hd u).k
theorem fin1 (X R : ByteArray) (a l : List Nat) (h : R = X) (hl : a = l) : X ++ str a = R ++ str l := by rw [h, hl]
theorem fin3 (X R : ByteArray) (a b c l : List Nat) (h : R = X) (hl : a ++ (b ++ c) = l) : X ++ str a ++ str b ++ str c = R ++ str l := by rw [h, ← hl, ByteArray.append_assoc, ByteArray.append_assoc, str_app, str_app]
theorem fin5 (X R : ByteArray) (a b c d e l : List Nat) (h : R = X) (hl : a ++ (b ++ (c ++ (d ++ e))) = l) : X ++ str a ++ str b ++ str c ++ str d ++ str e = R ++ str l := by rw [h, ← hl, ByteArray.append_assoc, ByteArray.append_assoc, ByteArray.append_assoc, ByteArray.append_assoc, str_app, str_app, str_app, str_app]
theorem k_alt (u : T) (h : kd u = 4) : Rt.isAlt u = true ∧ Rt.isCat u = false := by cases u <;> simp [kd, hd, Rt.isAlt, Rt.isCat] at h ⊢
theorem k_cat (u : T) (h : kd u = 3) : Rt.isAlt u = false ∧ Rt.isCat u = true := by cases u <;> simp [kd, hd, Rt.isAlt, Rt.isCat] at h ⊢
theorem k_no (u : T) (h4 : kd u ≠ 4) : Rt.isAlt u = false := by cases u <;> simp [kd, hd, Rt.isAlt] at h4 ⊢
theorem k_none (u : T) (h4 : kd u ≠ 4) (h3 : kd u ≠ 3) : Rt.isAlt u = false ∧ Rt.isCat u = false := by cases u <;> simp [kd, hd, Rt.isAlt, Rt.isCat] at h4 h3 ⊢
theorem k_atm (u : T) (h : kd u = 1 ∨ kd u = 2) : Rt.isAtm u = true := by cases u <;> simp [kd, hd, Rt.isAtm] at h ⊢
theorem k_big (u : T) (h1 : kd u ≠ 1) (h2 : kd u ≠ 2) : Rt.isAtm u = false := by cases u <;> simp [kd, hd, Rt.isAtm] at h1 h2 ⊢

set_option maxHeartbeats 8000000 in
set_option maxRecDepth 100000 in
theorem rshow_all {A : Option Addr} {cap : Nat} {l : List Nd} (hl : l.length ≤ 400) : ∀ (m : Nat) (t : T), (enc t).length ≤ m → okT t → ∀ (p : Nat) (w : World), nds w A l → tat l p t →
    Calls Tryd.prog 21 #[.slice A l.length cap, .int .i64 (p : Int)] w fun e w' => e = .returned (.string (str (Rt.tx t))) ∧ Below w.heap.size w w' := by
  intro m
  induction m with
  | zero => intro t hm; exact absurd hm (by have := enc_pos t; omega)
  | succ m ih =>
  intro t hm hok p w h ht
  have H := Lib.hid h
  have HOK := Lib.hid hok
  have hle := ht.le
  have hkl : (kidsT t).length ≤ 1000000 := by
    have h1 := encs_le (kidsT t)
    have h2 := congrArg List.length (enc_hd t)
    rw [List.length_cons] at h2
    omega
  have HKB := Lib.hid hkl
  have HTL : Hid ((Rt.tx t).length ≤ 500000) := Lib.hid (by have := tx_len t; omega)
  have HUL : Hid (∀ u ∈ kidsT t, (Rt.tx u).length ≤ 500000) := Lib.hid (fun u hu => by have h1 := kid_less hu; have h2 := tx_len u; omega)
  have HK := Lib.hid (rKids_any (cap := cap) (by omega) ht.node (hd_n t) hkl H)
  have HKL : Hid ((kidsM l (kidsT t).length ((p : Int) + 1)).length = (kidsT t).length) := Lib.hid (kidsM_length _ _ _)
  have HKid : Hid (∀ (j : Nat) u, (kidsT t)[j]? = some u → ∃ q : Nat, (kidsM l (kidsT t).length ((p : Int) + 1))[j]? = some (q : Int) ∧ (q : Int) < (l.length : Int) ∧ (∀ w, nds w A l → Calls Tryd.prog 21 #[.slice A l.length cap, .int .i64 (q : Int)] w fun e w' => e = .returned (.string (str (Rt.tx u))) ∧ Below w.heap.size w w') ∧ (∀ w, nds w A l → ∃ b off : Nat, A = some ⟨b, off, none⟩ ∧ w.cell? ⟨b, off + q * 8, none⟩ = some (.int .i64 (kd u)))) := Lib.hid (fun j u hu => by
    obtain ⟨q, hq, hqt⟩ := ht.kid hu
    have hmem := List.mem_of_getElem? hu
    refine ⟨q, hq, ?_, fun w hw => ih u (by have := kid_less hmem; omega) (okT_kid hok hmem) q w hw hqt, fun w hw => ?_⟩
    · have h1 := hqt.le
      have h2 := enc_pos u
      omega
    · obtain ⟨b, off, hA, _, hp⟩ := hw _ _ hqt.node
      exact ⟨b, off, hA, hp.c0⟩)
  obtain ⟨b, off, rfl, hb, hp⟩ := h _ _ ht.node
  have HC0 := Lib.hid hp.c0
  have HC6 := Lib.hid hp.c6
  have HC7 := Lib.hid hp.c7
  have HCS := Lib.hid hp.cs
  have HBB := Lib.hid hb
  have hpN : (p : Int) < (l.length : Int) := by have := enc_pos t; omega
  have hp0 : (0 : Int) ≤ (p : Int) := by omega
  clear h ht hle hkl hp hb ih hm hok
  obtain ⟨N, hN⟩ : ∃ N, N = l.length := ⟨_, rfl⟩
  rw [← hN] at HK HKid hpN hl
  rw [← hN]
  clear hN
  cases t with
  | set a =>
    dsimp only [hd, kidsT] at HC0 HC6 HC7 HCS HKL HK HKid HKB HUL
    have ha : isSet a := by have := HOK.out; unfold okT at this; exact this.1
    obtain ⟨x0, x1, x2, x3, rfl⟩ := four_of ha
    have HX0 := Lib.hid (HCS.out 0 x0 rfl)
    have HX1 := Lib.hid (HCS.out 1 x1 rfl)
    have HX2 := Lib.hid (HCS.out 2 x2 rfl)
    have HX3 := Lib.hid (HCS.out 3 x3 rfl)
    have HSW : Hid (∀ u, Calls Tryd.prog 31 #[.agg #[.int .u64 (x0 : Int), .int .u64 (x1 : Int), .int .u64 (x2 : Int), .int .u64 (x3 : Int)]] u fun e w' => e = .returned (.string (str (Rt.tx (.set [x0, x1, x2, x3])))) ∧ Below u.heap.size u w') := Lib.hid (fun u => by have h := Tq.rShow_any ha u; rw [str_shN] at h; exact h)
    clear ha
    go_enter Tryd.func21, Tryd.ntmps21
    go_wp2_with (first | (go_at_call 25; refine HK.out.mono ?_; rintro e w1 ⟨v1, rfl, i1, k1⟩; obtain ⟨A5, c5, hv1⟩ := i1.form; rw [HKL.out] at hv1; subst hv1; have I1 := Lib.hid i1; have K1 := Lib.hid k1; have d0 := (k1.cell (p := ⟨b, off + p * 8, none⟩) HBB.out).trans HC0.out; have d6 := (k1.cell (p := ⟨b, off + p * 8 + 6, none⟩) HBB.out).trans HC6.out; have d7 := (k1.cell (p := ⟨b, off + p * 8 + 7, none⟩) HBB.out).trans HC7.out; have d2 := (k1.cell (p := ⟨b, off + p * 8 + 2, none⟩) HBB.out).trans HX0.out; have d3 := (k1.cell (p := ⟨b, off + p * 8 + 2 + 1, none⟩) HBB.out).trans HX1.out; have d4 := (k1.cell (p := ⟨b, off + p * 8 + 2 + 2, none⟩) HBB.out).trans HX2.out; have d5 := (k1.cell (p := ⟨b, off + p * 8 + 2 + 3, none⟩) HBB.out).trans HX3.out; clear i1 k1) | (go_at_call 31; refine (HSW.out _).mono ?_; rintro e w9 ⟨rfl, k9⟩; have K9 := Lib.hid k9; clear k9))
    go_ret
    exact ⟨rfl, grows K1.out K9.out⟩
  | emp =>
    dsimp only [hd, kidsT] at HC0 HC6 HC7 HCS HKL HK HKid HKB HUL
    go_enter Tryd.func21, Tryd.ntmps21
    go_wp2_with (go_at_call 25; refine HK.out.mono ?_; rintro e w1 ⟨v1, rfl, i1, k1⟩; obtain ⟨A5, c5, hv1⟩ := i1.form; rw [HKL.out] at hv1; subst hv1; have I1 := Lib.hid i1; have K1 := Lib.hid k1; have d0 := (k1.cell (p := ⟨b, off + p * 8, none⟩) HBB.out).trans HC0.out; have d6 := (k1.cell (p := ⟨b, off + p * 8 + 6, none⟩) HBB.out).trans HC6.out; have d7 := (k1.cell (p := ⟨b, off + p * 8 + 7, none⟩) HBB.out).trans HC7.out; clear i1 k1)
    go_ret
    exact ⟨retS (show (⟨#[40, 41]⟩ : ByteArray) = str (Rt.tx .emp) from by rw [Rt.tx]; rfl), K1.out⟩
  | cat ts =>
    dsimp only [hd, kidsT] at HC0 HC6 HC7 HCS HKL HK HKid HKB HUL
    obtain ⟨R, hR⟩ : ∃ R, R = Rt.txC ts := ⟨_, rfl⟩
    have HR := Lib.hid hR
    have HRL : Hid (R.length ≤ 500000) := Lib.hid (by have h := HTL.out; rw [Rt.tx, ← hR] at h; exact h)
    rw [show Rt.tx (.cat ts) = R by rw [hR, Rt.tx]]
    obtain ⟨K, hK⟩ : ∃ K, K = ts.length := ⟨_, rfl⟩
    have HKK := Lib.hid hK
    rw [← hK] at HKL HK HKid HKB
    have hKb := HKB.out
    obtain ⟨KK, hKK⟩ : ∃ KK, KK = kidsM l K ((p : Int) + 1) := ⟨_, rfl⟩
    rw [← hKK] at HKL HK HKid
    clear hR hK hKK
    go_enter Tryd.func21, Tryd.ntmps21
    go_wp2_with (go_at_call 25; refine HK.out.mono ?_; rintro e w1 ⟨v1, rfl, i1, k1⟩; obtain ⟨A5, c5, hv1⟩ := i1.form; rw [HKL.out] at hv1; subst hv1; have I1 := Lib.hid i1; have K1 := Lib.hid k1; have d0 := (k1.cell (p := ⟨b, off + p * 8, none⟩) HBB.out).trans HC0.out; have d6 := (k1.cell (p := ⟨b, off + p * 8 + 6, none⟩) HBB.out).trans HC6.out; have d7 := (k1.cell (p := ⟨b, off + p * 8 + 7, none⟩) HBB.out).trans HC7.out; clear i1 k1)
    go_loopw [6, 7, 8] (fun s6 s7 _ wr => ∃ (j : Nat) (S : ByteArray), s6 = .string S ∧ s7 = .int .i64 (j : Int) ∧ j ≤ K ∧ S.size ≤ 500000 ∧ Hid (S = str (Rt.txC (ts.take j))) ∧ Hid (Below w1.heap.size w1 wr)) (fun _ s7 _ _ => K - (intOf s7).toNat)
    case atStart => exact ⟨0, _, rfl, rfl, by omega, by decide, Lib.hid (by rw [List.take_zero, Rt.txC]; rfl), Lib.hid (Below.refl _ _)⟩
    case round =>
      obtain ⟨j, S, rfl, rfl, hj, hS, HS, HB⟩ := hrel
      clear d0 d6 d7
      have d0 := (HB.out.cell (p := ⟨b, off + p * 8, none⟩) (Nat.lt_of_lt_of_le HBB.out K1.out.size)).trans ((K1.out.cell (p := ⟨b, off + p * 8, none⟩) HBB.out).trans HC0.out)
      by_cases hjn : j < K
      · obtain ⟨u, hu⟩ : ∃ u, ts[j]? = some u := ⟨_, List.getElem?_eq_getElem (by rw [← HKK.out]; exact hjn)⟩
        obtain ⟨q, hq, hqN, hcall, hkind⟩ := HKid.out j u hu
        obtain ⟨b2, o2, hbo, hku⟩ := hkind wr ((H.out.below K1.out).below HB.out)
        injection hbo with hbo; injection hbo with e1 e2 _; subst e1; subst e2
        obtain ⟨g5, o5, rfl, hg5, hc5⟩ := (ints.row (I1.out.below HB.out)) j (by rw [HKL.out]; exact hjn)
        have hat : at' KK j = (q : Int) := by
          have h1 := at_get (l := KK) (i := j) (by rw [HKL.out]; exact hjn)
          rw [hq] at h1
          exact (Option.some.inj h1).symm
        rw [hat] at hc5
        have HC := Lib.hid (hcall wr ((H.out.below K1.out).below HB.out))
        have hjn' : (j : Int) < (K : Int) := by omega
        have hj0 : (0 : Int) ≤ (j : Int) := by omega
        have hq0 : (0 : Int) ≤ (q : Int) := by omega
        have HJN := Lib.hid hjn
        have HU := Lib.hid hu
        obtain ⟨U, hU⟩ : ∃ U, U = str (Rt.tx u) := ⟨_, rfl⟩
        have hUz : U.size ≤ 500000 := by rw [hU, str_size]; exact HUL.out u (List.mem_of_getElem? hu)
        have HUU := Lib.hid hU
        rw [← hU] at HC
        obtain ⟨ku, hkk⟩ : ∃ ku, ku = kd u := ⟨_, rfl⟩
        rw [← hkk] at hku
        have HKU := Lib.hid hkk
        have HLE : Hid ((Rt.txC (ts.take (j + 1))).length ≤ 500000) := Lib.hid (by have h1 := txC_le ts (j + 1); have h2 := HRL.out; rw [HR.out] at h2; omega)
        clear hcall hkind hq hat hjn hu hU hkk hg5
        rcases Nat.eq_zero_or_pos j with hjz | hjz
        · skip
          have hjp : ¬ (0 : Int) < (j : Int) := by omega
          clear hjz
          by_cases h4 : ku = 4
          · subst h4
            have HNX : Hid (S ++ ⟨#[40]⟩ ++ U ++ ⟨#[41]⟩ = str (Rt.txC (ts.take (j + 1)))) := Lib.hid (by
              rw [txC_snoc HU.out, (k_alt u HKU.out.symm).1, Bool.true_or, HS.out, HUU.out, ← str_app, ← par_t, ByteArray.append_assoc, ByteArray.append_assoc, ByteArray.append_assoc])
            have z1 : ¬ 9223372036854775807 < S.size + 1 := by omega
            have z2 : ¬ 9223372036854775807 < S.size + 1 + U.size := by omega
            have z3 : ¬ 9223372036854775807 < S.size + 1 + U.size + 1 := by omega
            go_wp2_with (go_at_call 21; refine HC.out.mono ?_; rintro e w9 ⟨rfl, k9⟩; have K9 := Lib.hid k9; clear k9)
            go_roundw
            case rel => exact ⟨j + 1, _, rfl, by go_num, by have := HJN.out; omega, by rw [HNX.out, str_size]; exact HLE.out, HNX, Lib.hid (grows HB.out K9.out)⟩
            case measure => have := HJN.out; simp [intOf]; omega
          · by_cases h3 : ku = 3
            · subst h3
              clear h4
              have HNX : Hid (S ++ ⟨#[40]⟩ ++ U ++ ⟨#[41]⟩ = str (Rt.txC (ts.take (j + 1)))) := Lib.hid (by
                rw [txC_snoc HU.out, (k_cat u HKU.out.symm).2, Bool.or_true, HS.out, HUU.out, ← str_app, ← par_t, ByteArray.append_assoc, ByteArray.append_assoc, ByteArray.append_assoc])
              have z1 : ¬ 9223372036854775807 < S.size + 1 := by omega
              have z2 : ¬ 9223372036854775807 < S.size + 1 + U.size := by omega
              have z3 : ¬ 9223372036854775807 < S.size + 1 + U.size + 1 := by omega
              go_wp2_with (go_at_call 21; refine HC.out.mono ?_; rintro e w9 ⟨rfl, k9⟩; have K9 := Lib.hid k9; clear k9)
              go_roundw
              case rel => exact ⟨j + 1, _, rfl, by go_num, by have := HJN.out; omega, by rw [HNX.out, str_size]; exact HLE.out, HNX, Lib.hid (grows HB.out K9.out)⟩
              case measure => have := HJN.out; simp [intOf]; omega
            · skip
              have n4 : (ku == 4) = false := by simp [h4]
              have n3 : (ku == 3) = false := by simp [h3]
              have HN4 := Lib.hid h4
              have HN3 := Lib.hid h3
              clear h4 h3
              have HNX : Hid (S ++ U = str (Rt.txC (ts.take (j + 1)))) := Lib.hid (by
                rw [txC_snoc HU.out, (k_none u (by rw [← HKU.out]; exact HN4.out) (by rw [← HKU.out]; exact HN3.out)).1, (k_none u (by rw [← HKU.out]; exact HN4.out) (by rw [← HKU.out]; exact HN3.out)).2, HS.out, HUU.out, ← str_app]
                rfl)
              have z1 : ¬ 9223372036854775807 < S.size + U.size := by omega
              go_wp2_with (go_at_call 21; refine HC.out.mono ?_; rintro e w9 ⟨rfl, k9⟩; have K9 := Lib.hid k9; clear k9)
              go_roundw
              case rel => exact ⟨j + 1, _, rfl, by go_num, by have := HJN.out; omega, by rw [HNX.out, str_size]; exact HLE.out, HNX, Lib.hid (grows HB.out K9.out)⟩
              case measure => have := HJN.out; simp [intOf]; omega
        · skip
          have hjp : (0 : Int) < (j : Int) := by omega
          clear hjz
          by_cases h4 : ku = 4
          · subst h4
            have HNX : Hid (S ++ ⟨#[40]⟩ ++ U ++ ⟨#[41]⟩ = str (Rt.txC (ts.take (j + 1)))) := Lib.hid (by
              rw [txC_snoc HU.out, (k_alt u HKU.out.symm).1, Bool.true_or, HS.out, HUU.out, ← str_app, ← par_t, ByteArray.append_assoc, ByteArray.append_assoc, ByteArray.append_assoc])
            have z1 : ¬ 9223372036854775807 < S.size + 1 := by omega
            have z2 : ¬ 9223372036854775807 < S.size + 1 + U.size := by omega
            have z3 : ¬ 9223372036854775807 < S.size + 1 + U.size + 1 := by omega
            go_wp2_with (go_at_call 21; refine HC.out.mono ?_; rintro e w9 ⟨rfl, k9⟩; have K9 := Lib.hid k9; clear k9)
            go_roundw
            case rel => exact ⟨j + 1, _, rfl, by go_num, by have := HJN.out; omega, by rw [HNX.out, str_size]; exact HLE.out, HNX, Lib.hid (grows HB.out K9.out)⟩
            case measure => have := HJN.out; simp [intOf]; omega
          · by_cases h3 : ku = 3
            · subst h3
              clear h4
              have HNX : Hid (S ++ ⟨#[40]⟩ ++ U ++ ⟨#[41]⟩ = str (Rt.txC (ts.take (j + 1)))) := Lib.hid (by
                rw [txC_snoc HU.out, (k_cat u HKU.out.symm).2, Bool.or_true, HS.out, HUU.out, ← str_app, ← par_t, ByteArray.append_assoc, ByteArray.append_assoc, ByteArray.append_assoc])
              have z1 : ¬ 9223372036854775807 < S.size + 1 := by omega
              have z2 : ¬ 9223372036854775807 < S.size + 1 + U.size := by omega
              have z3 : ¬ 9223372036854775807 < S.size + 1 + U.size + 1 := by omega
              go_wp2_with (go_at_call 21; refine HC.out.mono ?_; rintro e w9 ⟨rfl, k9⟩; have K9 := Lib.hid k9; clear k9)
              go_roundw
              case rel => exact ⟨j + 1, _, rfl, by go_num, by have := HJN.out; omega, by rw [HNX.out, str_size]; exact HLE.out, HNX, Lib.hid (grows HB.out K9.out)⟩
              case measure => have := HJN.out; simp [intOf]; omega
            · skip
              have n4 : (ku == 4) = false := by simp [h4]
              have n3 : (ku == 3) = false := by simp [h3]
              have HN4 := Lib.hid h4
              have HN3 := Lib.hid h3
              clear h4 h3
              have HNX : Hid (S ++ U = str (Rt.txC (ts.take (j + 1)))) := Lib.hid (by
                rw [txC_snoc HU.out, (k_none u (by rw [← HKU.out]; exact HN4.out) (by rw [← HKU.out]; exact HN3.out)).1, (k_none u (by rw [← HKU.out]; exact HN4.out) (by rw [← HKU.out]; exact HN3.out)).2, HS.out, HUU.out, ← str_app]
                rfl)
              have z1 : ¬ 9223372036854775807 < S.size + U.size := by omega
              go_wp2_with (go_at_call 21; refine HC.out.mono ?_; rintro e w9 ⟨rfl, k9⟩; have K9 := Lib.hid k9; clear k9)
              go_roundw
              case rel => exact ⟨j + 1, _, rfl, by go_num, by have := HJN.out; omega, by rw [HNX.out, str_size]; exact HLE.out, HNX, Lib.hid (grows HB.out K9.out)⟩
              case measure => have := HJN.out; simp [intOf]; omega
      · have hj' : ¬ (j : Int) < (K : Int) := by omega
        have HX : Hid (S = str R) := Lib.hid (by rw [HS.out, HR.out, List.take_of_length_le (by rw [← HKK.out]; omega)])
        go_wp2
        go_ret
        exact ⟨retS HX.out, grows K1.out HB.out⟩
  | alt ts =>
    dsimp only [hd, kidsT] at HC0 HC6 HC7 HCS HKL HK HKid HKB HUL
    obtain ⟨R, hR⟩ : ∃ R, R = Rt.txA ts := ⟨_, rfl⟩
    have HR := Lib.hid hR
    have HRL : Hid (R.length ≤ 500000) := Lib.hid (by have h := HTL.out; rw [Rt.tx, ← hR] at h; exact h)
    rw [show Rt.tx (.alt ts) = R by rw [hR, Rt.tx]]
    obtain ⟨K, hK⟩ : ∃ K, K = ts.length := ⟨_, rfl⟩
    have HKK := Lib.hid hK
    rw [← hK] at HKL HK HKid HKB
    have hKb := HKB.out
    obtain ⟨KK, hKK⟩ : ∃ KK, KK = kidsM l K ((p : Int) + 1) := ⟨_, rfl⟩
    rw [← hKK] at HKL HK HKid
    clear hR hK hKK
    go_enter Tryd.func21, Tryd.ntmps21
    go_wp2_with (go_at_call 25; refine HK.out.mono ?_; rintro e w1 ⟨v1, rfl, i1, k1⟩; obtain ⟨A5, c5, hv1⟩ := i1.form; rw [HKL.out] at hv1; subst hv1; have I1 := Lib.hid i1; have K1 := Lib.hid k1; have d0 := (k1.cell (p := ⟨b, off + p * 8, none⟩) HBB.out).trans HC0.out; have d6 := (k1.cell (p := ⟨b, off + p * 8 + 6, none⟩) HBB.out).trans HC6.out; have d7 := (k1.cell (p := ⟨b, off + p * 8 + 7, none⟩) HBB.out).trans HC7.out; clear i1 k1)
    go_loopw [6, 7, 8] (fun s6 s7 _ wr => ∃ (j : Nat) (S : ByteArray), s6 = .string S ∧ s7 = .int .i64 (j : Int) ∧ j ≤ K ∧ S.size ≤ 500000 ∧ Hid (S = str (Rt.txA (ts.take j))) ∧ Hid (Below w1.heap.size w1 wr)) (fun _ s7 _ _ => K - (intOf s7).toNat)
    case atStart => exact ⟨0, _, rfl, rfl, by omega, by decide, Lib.hid (by rw [List.take_zero, Rt.txA]; rfl), Lib.hid (Below.refl _ _)⟩
    case round =>
      obtain ⟨j, S, rfl, rfl, hj, hS, HS, HB⟩ := hrel
      clear d0 d6 d7
      have d0 := (HB.out.cell (p := ⟨b, off + p * 8, none⟩) (Nat.lt_of_lt_of_le HBB.out K1.out.size)).trans ((K1.out.cell (p := ⟨b, off + p * 8, none⟩) HBB.out).trans HC0.out)
      by_cases hjn : j < K
      · obtain ⟨u, hu⟩ : ∃ u, ts[j]? = some u := ⟨_, List.getElem?_eq_getElem (by rw [← HKK.out]; exact hjn)⟩
        obtain ⟨q, hq, hqN, hcall, hkind⟩ := HKid.out j u hu
        obtain ⟨b2, o2, hbo, hku⟩ := hkind wr ((H.out.below K1.out).below HB.out)
        injection hbo with hbo; injection hbo with e1 e2 _; subst e1; subst e2
        obtain ⟨g5, o5, rfl, hg5, hc5⟩ := (ints.row (I1.out.below HB.out)) j (by rw [HKL.out]; exact hjn)
        have hat : at' KK j = (q : Int) := by
          have h1 := at_get (l := KK) (i := j) (by rw [HKL.out]; exact hjn)
          rw [hq] at h1
          exact (Option.some.inj h1).symm
        rw [hat] at hc5
        have HC := Lib.hid (hcall wr ((H.out.below K1.out).below HB.out))
        have hjn' : (j : Int) < (K : Int) := by omega
        have hj0 : (0 : Int) ≤ (j : Int) := by omega
        have hq0 : (0 : Int) ≤ (q : Int) := by omega
        have HJN := Lib.hid hjn
        have HU := Lib.hid hu
        obtain ⟨U, hU⟩ : ∃ U, U = str (Rt.tx u) := ⟨_, rfl⟩
        have hUz : U.size ≤ 500000 := by rw [hU, str_size]; exact HUL.out u (List.mem_of_getElem? hu)
        have HUU := Lib.hid hU
        rw [← hU] at HC
        obtain ⟨ku, hkk⟩ : ∃ ku, ku = kd u := ⟨_, rfl⟩
        rw [← hkk] at hku
        have HKU := Lib.hid hkk
        have HLE : Hid ((Rt.txA (ts.take (j + 1))).length ≤ 500000) := Lib.hid (by have h1 := txA_le ts (j + 1); have h2 := HRL.out; rw [HR.out] at h2; omega)
        clear hcall hkind hq hat hjn hu hU hkk hg5
        rcases Nat.eq_zero_or_pos j with hjz | hjz
        · have hjp : ¬ (0 : Int) < (j : Int) := by omega
          have HJ0 := Lib.hid hjz
          have HS0 : Hid (S = str []) := Lib.hid (by rw [HS.out, hjz, List.take_zero, Rt.txA])
          clear hjz
          by_cases h4 : ku = 4
          · subst h4
            have HNX : Hid (S ++ ⟨#[40]⟩ ++ U ++ ⟨#[41]⟩ = str (Rt.txA (ts.take (j + 1)))) := Lib.hid (by
              have e := HJ0.out
              subst e
              rw [txA_one HU.out, (k_alt u HKU.out.symm).1, HS0.out, HUU.out, ← par_t, ByteArray.append_assoc, ByteArray.append_assoc]
              show str [] ++ (str [40] ++ (str (Rt.tx u) ++ str [41])) = str [40] ++ str (Rt.tx u) ++ str [41]
              rw [str_app, str_app, str_app, str_app, str_app]
              simp)
            have z1 : ¬ 9223372036854775807 < S.size + 1 := by omega
            have z2 : ¬ 9223372036854775807 < S.size + 1 + U.size := by omega
            have z3 : ¬ 9223372036854775807 < S.size + 1 + U.size + 1 := by omega
            go_wp2_with (go_at_call 21; refine HC.out.mono ?_; rintro e w9 ⟨rfl, k9⟩; have K9 := Lib.hid k9; clear k9)
            go_roundw
            case rel => exact ⟨j + 1, _, rfl, by go_num, by have := HJN.out; omega, by rw [HNX.out, str_size]; exact HLE.out, HNX, Lib.hid (grows HB.out K9.out)⟩
            case measure => have := HJN.out; simp [intOf]; omega
          · skip
            have HN4 := Lib.hid h4
            have n4 : (ku == 4) = false := by simp [h4]
            clear h4
            by_cases h3 : ku = 3
            · subst h3
              have HNX : Hid (S ++ U = str (Rt.txA (ts.take (j + 1)))) := Lib.hid (by
                have e := HJ0.out
                subst e
                rw [txA_one HU.out, k_no u (by rw [← HKU.out]; exact HN4.out), HS0.out, HUU.out, str_app]
                rfl)
              have z1 : ¬ 9223372036854775807 < S.size + U.size := by omega
              go_wp2_with (go_at_call 21; refine HC.out.mono ?_; rintro e w9 ⟨rfl, k9⟩; have K9 := Lib.hid k9; clear k9)
              go_roundw
              case rel => exact ⟨j + 1, _, rfl, by go_num, by have := HJN.out; omega, by rw [HNX.out, str_size]; exact HLE.out, HNX, Lib.hid (grows HB.out K9.out)⟩
              case measure => have := HJN.out; simp [intOf]; omega
            · have n3 : (ku == 3) = false := by simp [h3]
              clear h3
              have HNX : Hid (S ++ U = str (Rt.txA (ts.take (j + 1)))) := Lib.hid (by
                have e := HJ0.out
                subst e
                rw [txA_one HU.out, k_no u (by rw [← HKU.out]; exact HN4.out), HS0.out, HUU.out, str_app]
                rfl)
              have z1 : ¬ 9223372036854775807 < S.size + U.size := by omega
              go_wp2_with (go_at_call 21; refine HC.out.mono ?_; rintro e w9 ⟨rfl, k9⟩; have K9 := Lib.hid k9; clear k9)
              go_roundw
              case rel => exact ⟨j + 1, _, rfl, by go_num, by have := HJN.out; omega, by rw [HNX.out, str_size]; exact HLE.out, HNX, Lib.hid (grows HB.out K9.out)⟩
              case measure => have := HJN.out; simp [intOf]; omega
        · have hjp : (0 : Int) < (j : Int) := by omega
          have HJP := Lib.hid hjz
          clear hjz
          by_cases h4 : ku = 4
          · subst h4
            have z0 : ¬ 9223372036854775807 < S.size + 1 := by omega
            have HNX : Hid (S ++ ⟨#[124]⟩ ++ ⟨#[40]⟩ ++ U ++ ⟨#[41]⟩ = str (Rt.txA (ts.take (j + 1)))) := Lib.hid (by
              rw [txA_snoc HJP.out HU.out, (k_alt u HKU.out.symm).1, HS.out, HUU.out]
              show str _ ++ str [124] ++ str [40] ++ str (Rt.tx u) ++ str [41] = _
              rw [str_app, str_app, str_app, str_app]
              unfold Rt.par
              simp)
            have z1 : ¬ 9223372036854775807 < S.size + 1 + 1 := by omega
            have z2 : ¬ 9223372036854775807 < S.size + 1 + 1 + U.size := by omega
            have z3 : ¬ 9223372036854775807 < S.size + 1 + 1 + U.size + 1 := by omega
            go_wp2_with (go_at_call 21; refine HC.out.mono ?_; rintro e w9 ⟨rfl, k9⟩; have K9 := Lib.hid k9; clear k9)
            go_roundw
            case rel => exact ⟨j + 1, _, rfl, by go_num, by have := HJN.out; omega, by rw [HNX.out, str_size]; exact HLE.out, HNX, Lib.hid (grows HB.out K9.out)⟩
            case measure => have := HJN.out; simp [intOf]; omega
          · skip
            have HN4 := Lib.hid h4
            have n4 : (ku == 4) = false := by simp [h4]
            clear h4
            by_cases h3 : ku = 3
            · subst h3
              have z0 : ¬ 9223372036854775807 < S.size + 1 := by omega
              have HNX : Hid (S ++ ⟨#[124]⟩ ++ U = str (Rt.txA (ts.take (j + 1)))) := Lib.hid (by
                rw [txA_snoc HJP.out HU.out, k_no u (by rw [← HKU.out]; exact HN4.out), HS.out, HUU.out]
                show str _ ++ str [124] ++ str (Rt.tx u) = _
                rw [str_app, str_app]
                unfold Rt.par
                simp)
              have z1 : ¬ 9223372036854775807 < S.size + 1 + U.size := by omega
              go_wp2_with (go_at_call 21; refine HC.out.mono ?_; rintro e w9 ⟨rfl, k9⟩; have K9 := Lib.hid k9; clear k9)
              go_roundw
              case rel => exact ⟨j + 1, _, rfl, by go_num, by have := HJN.out; omega, by rw [HNX.out, str_size]; exact HLE.out, HNX, Lib.hid (grows HB.out K9.out)⟩
              case measure => have := HJN.out; simp [intOf]; omega
            · have n3 : (ku == 3) = false := by simp [h3]
              clear h3
              have z0 : ¬ 9223372036854775807 < S.size + 1 := by omega
              have HNX : Hid (S ++ ⟨#[124]⟩ ++ U = str (Rt.txA (ts.take (j + 1)))) := Lib.hid (by
                rw [txA_snoc HJP.out HU.out, k_no u (by rw [← HKU.out]; exact HN4.out), HS.out, HUU.out]
                show str _ ++ str [124] ++ str (Rt.tx u) = _
                rw [str_app, str_app]
                unfold Rt.par
                simp)
              have z1 : ¬ 9223372036854775807 < S.size + 1 + U.size := by omega
              go_wp2_with (go_at_call 21; refine HC.out.mono ?_; rintro e w9 ⟨rfl, k9⟩; have K9 := Lib.hid k9; clear k9)
              go_roundw
              case rel => exact ⟨j + 1, _, rfl, by go_num, by have := HJN.out; omega, by rw [HNX.out, str_size]; exact HLE.out, HNX, Lib.hid (grows HB.out K9.out)⟩
              case measure => have := HJN.out; simp [intOf]; omega
      · have hj' : ¬ (j : Int) < (K : Int) := by omega
        have HX : Hid (S = str R) := Lib.hid (by rw [HS.out, HR.out, List.take_of_length_le (by rw [← HKK.out]; omega)])
        go_wp2
        go_ret
        exact ⟨retS HX.out, grows K1.out HB.out⟩
  | star u =>
    dsimp only [hd, kidsT] at HC0 HC6 HC7 HCS HKL HK HKid HKB HUL
    obtain ⟨KK, hKK⟩ : ∃ KK, KK = kidsM l [u].length ((p : Int) + 1) := ⟨_, rfl⟩
    rw [← hKK] at HKL HK HKid
    clear hKK
    obtain ⟨q, hq, hqN, hcall, hkind⟩ := HKid.out 0 u rfl
    have HL1 : Hid (KK.length = 1) := Lib.hid HKL.out
    have HKL := HL1
    have HAT : Hid (at' KK 0 = (q : Int)) := Lib.hid (by
      have h1 := at_get (l := KK) (i := 0) (by rw [HL1.out]; decide)
      rw [hq] at h1
      exact (Option.some.inj h1).symm)
    have hq0 : (0 : Int) ≤ (q : Int) := by omega
    obtain ⟨U, hU⟩ : ∃ U, U = str (Rt.tx u) := ⟨_, rfl⟩
    have hUz : U.size ≤ 500000 := by rw [hU, str_size]; exact HUL.out u (by simp)
    have HUU := Lib.hid hU
    rw [← hU] at hcall
    have HKU : Hid (∀ x, nds x (some ⟨b, off, none⟩) l → x.cell? ⟨b, off + q * 8, none⟩ = some (.int .i64 (kd u))) := Lib.hid (fun x hx => by
      obtain ⟨b2, o2, hbo, hku⟩ := hkind x hx
      injection hbo with hbo; injection hbo with e1 e2 _; subst e1; subst e2
      exact hku)
    obtain ⟨ku, hkk⟩ : ∃ ku, ku = kd u := ⟨_, rfl⟩
    rw [← hkk] at HKU
    have HCC := Lib.hid hcall
    clear hq hcall hkind hU
    obtain ⟨R, hR⟩ : ∃ R, R = str (Rt.par (!Rt.isAtm u) (Rt.tx u)) := ⟨_, rfl⟩
    have hRz : R.size ≤ 500002 := by rw [hR, str_size]; have h1 := par_len (!Rt.isAtm u) (Rt.tx u); have h2 := HUL.out u (by simp); omega
    have HRES : Hid (R ++ str [42] = str (Rt.tx (.star u))) := Lib.hid (by rw [hR, str_app, Rt.tx])
    have HRR := Lib.hid hR
    clear hR
    by_cases h1 : ku = 1
    · subst h1
      have HPR : Hid (R = U) := Lib.hid (by
        rw [HRR.out, HUU.out, k_atm u (.inl hkk.symm)]
        rfl)
      clear hkk
      have y1 : ¬ 9223372036854775807 < U.size + 1 := by omega
      go_enter Tryd.func21, Tryd.ntmps21
      go_wp2_with (first | (go_at_call 25; refine HK.out.mono ?_; rintro e w1 ⟨v1, rfl, i1, k1⟩; obtain ⟨A5, c5, hv1⟩ := i1.form; rw [HKL.out] at hv1; subst hv1; have I1 := Lib.hid i1; have K1 := Lib.hid k1; have d0 := (k1.cell (p := ⟨b, off + p * 8, none⟩) HBB.out).trans HC0.out; have d6 := (k1.cell (p := ⟨b, off + p * 8 + 6, none⟩) HBB.out).trans HC6.out; have d7 := (k1.cell (p := ⟨b, off + p * 8 + 7, none⟩) HBB.out).trans HC7.out; obtain ⟨g5, o5, rfl, hg5, hc5⟩ := (ints.row I1.out) 0 (by rw [HKL.out]; decide); rw [HAT.out, Nat.add_zero] at hc5; have HC := Lib.hid (HCC.out w1 (H.out.below K1.out)); clear i1 k1) | (go_at_call 21; refine HC.out.mono ?_; rintro e w9 ⟨rfl, k9⟩; have K9 := Lib.hid k9; have HN9 := Lib.hid ((H.out.below K1.out).below k9); have hku := HKU.out _ HN9.out; have c5 := (k9.cell (p := ⟨g5, o5, none⟩) hg5).trans hc5; have f0 := (k9.cell (p := ⟨b, off + p * 8, none⟩) (Nat.lt_of_lt_of_le HBB.out K1.out.size)).trans d0; have f6 := (k9.cell (p := ⟨b, off + p * 8 + 6, none⟩) (Nat.lt_of_lt_of_le HBB.out K1.out.size)).trans d6; have f7 := (k9.cell (p := ⟨b, off + p * 8 + 7, none⟩) (Nat.lt_of_lt_of_le HBB.out K1.out.size)).trans d7; clear k9 d0 d6 d7 hc5))
      go_ret
      exact ⟨retS ((fin1 _ _ [42] _ HPR.out rfl).trans HRES.out), grows K1.out K9.out⟩
    · by_cases h2 : ku = 2
      · subst h2
        have HPR : Hid (R = U) := Lib.hid (by
          rw [HRR.out, HUU.out, k_atm u (.inr hkk.symm)]
          rfl)
        clear hkk h1
        have y1 : ¬ 9223372036854775807 < U.size + 1 := by omega
        go_enter Tryd.func21, Tryd.ntmps21
        go_wp2_with (first | (go_at_call 25; refine HK.out.mono ?_; rintro e w1 ⟨v1, rfl, i1, k1⟩; obtain ⟨A5, c5, hv1⟩ := i1.form; rw [HKL.out] at hv1; subst hv1; have I1 := Lib.hid i1; have K1 := Lib.hid k1; have d0 := (k1.cell (p := ⟨b, off + p * 8, none⟩) HBB.out).trans HC0.out; have d6 := (k1.cell (p := ⟨b, off + p * 8 + 6, none⟩) HBB.out).trans HC6.out; have d7 := (k1.cell (p := ⟨b, off + p * 8 + 7, none⟩) HBB.out).trans HC7.out; obtain ⟨g5, o5, rfl, hg5, hc5⟩ := (ints.row I1.out) 0 (by rw [HKL.out]; decide); rw [HAT.out, Nat.add_zero] at hc5; have HC := Lib.hid (HCC.out w1 (H.out.below K1.out)); clear i1 k1) | (go_at_call 21; refine HC.out.mono ?_; rintro e w9 ⟨rfl, k9⟩; have K9 := Lib.hid k9; have HN9 := Lib.hid ((H.out.below K1.out).below k9); have hku := HKU.out _ HN9.out; have c5 := (k9.cell (p := ⟨g5, o5, none⟩) hg5).trans hc5; have f0 := (k9.cell (p := ⟨b, off + p * 8, none⟩) (Nat.lt_of_lt_of_le HBB.out K1.out.size)).trans d0; have f6 := (k9.cell (p := ⟨b, off + p * 8 + 6, none⟩) (Nat.lt_of_lt_of_le HBB.out K1.out.size)).trans d6; have f7 := (k9.cell (p := ⟨b, off + p * 8 + 7, none⟩) (Nat.lt_of_lt_of_le HBB.out K1.out.size)).trans d7; clear k9 d0 d6 d7 hc5))
        go_ret
        exact ⟨retS ((fin1 _ _ [42] _ HPR.out rfl).trans HRES.out), grows K1.out K9.out⟩
      · skip
        have n1 : (ku == 1) = false := by simp [h1]
        have n2 : (ku == 2) = false := by simp [h2]
        have n1b : (ku != 1) = true := by simp [h1]
        have n2b : (ku != 2) = true := by simp [h2]
        have HPR : Hid (R = ⟨#[40]⟩ ++ U ++ ⟨#[41]⟩) := Lib.hid (by
          rw [HRR.out, HUU.out, k_big u (by rw [← hkk]; exact h1) (by rw [← hkk]; exact h2), par_t]
          rfl)
        clear hkk h1 h2
        have z1 : ¬ 9223372036854775807 < 1 + U.size := by omega
        have z2 : ¬ 9223372036854775807 < 1 + U.size + 1 := by omega
        have y1 : ¬ 9223372036854775807 < 1 + U.size + 1 + 1 := by omega
        go_enter Tryd.func21, Tryd.ntmps21
        go_wp2_with (first | (go_at_call 25; refine HK.out.mono ?_; rintro e w1 ⟨v1, rfl, i1, k1⟩; obtain ⟨A5, c5, hv1⟩ := i1.form; rw [HKL.out] at hv1; subst hv1; have I1 := Lib.hid i1; have K1 := Lib.hid k1; have d0 := (k1.cell (p := ⟨b, off + p * 8, none⟩) HBB.out).trans HC0.out; have d6 := (k1.cell (p := ⟨b, off + p * 8 + 6, none⟩) HBB.out).trans HC6.out; have d7 := (k1.cell (p := ⟨b, off + p * 8 + 7, none⟩) HBB.out).trans HC7.out; obtain ⟨g5, o5, rfl, hg5, hc5⟩ := (ints.row I1.out) 0 (by rw [HKL.out]; decide); rw [HAT.out, Nat.add_zero] at hc5; have HC := Lib.hid (HCC.out w1 (H.out.below K1.out)); clear i1 k1) | (go_at_call 21; refine HC.out.mono ?_; rintro e w9 ⟨rfl, k9⟩; have K9 := Lib.hid k9; have HN9 := Lib.hid ((H.out.below K1.out).below k9); have hku := HKU.out _ HN9.out; have c5 := (k9.cell (p := ⟨g5, o5, none⟩) hg5).trans hc5; have f0 := (k9.cell (p := ⟨b, off + p * 8, none⟩) (Nat.lt_of_lt_of_le HBB.out K1.out.size)).trans d0; have f6 := (k9.cell (p := ⟨b, off + p * 8 + 6, none⟩) (Nat.lt_of_lt_of_le HBB.out K1.out.size)).trans d6; have f7 := (k9.cell (p := ⟨b, off + p * 8 + 7, none⟩) (Nat.lt_of_lt_of_le HBB.out K1.out.size)).trans d7; clear k9 d0 d6 d7 hc5))
        go_ret
        exact ⟨retS ((fin1 _ _ [42] _ HPR.out rfl).trans HRES.out), grows K1.out K9.out⟩
  | plus u =>
    dsimp only [hd, kidsT] at HC0 HC6 HC7 HCS HKL HK HKid HKB HUL
    obtain ⟨KK, hKK⟩ : ∃ KK, KK = kidsM l [u].length ((p : Int) + 1) := ⟨_, rfl⟩
    rw [← hKK] at HKL HK HKid
    clear hKK
    obtain ⟨q, hq, hqN, hcall, hkind⟩ := HKid.out 0 u rfl
    have HL1 : Hid (KK.length = 1) := Lib.hid HKL.out
    have HKL := HL1
    have HAT : Hid (at' KK 0 = (q : Int)) := Lib.hid (by
      have h1 := at_get (l := KK) (i := 0) (by rw [HL1.out]; decide)
      rw [hq] at h1
      exact (Option.some.inj h1).symm)
    have hq0 : (0 : Int) ≤ (q : Int) := by omega
    obtain ⟨U, hU⟩ : ∃ U, U = str (Rt.tx u) := ⟨_, rfl⟩
    have hUz : U.size ≤ 500000 := by rw [hU, str_size]; exact HUL.out u (by simp)
    have HUU := Lib.hid hU
    rw [← hU] at hcall
    have HKU : Hid (∀ x, nds x (some ⟨b, off, none⟩) l → x.cell? ⟨b, off + q * 8, none⟩ = some (.int .i64 (kd u))) := Lib.hid (fun x hx => by
      obtain ⟨b2, o2, hbo, hku⟩ := hkind x hx
      injection hbo with hbo; injection hbo with e1 e2 _; subst e1; subst e2
      exact hku)
    obtain ⟨ku, hkk⟩ : ∃ ku, ku = kd u := ⟨_, rfl⟩
    rw [← hkk] at HKU
    have HCC := Lib.hid hcall
    clear hq hcall hkind hU
    obtain ⟨R, hR⟩ : ∃ R, R = str (Rt.par (!Rt.isAtm u) (Rt.tx u)) := ⟨_, rfl⟩
    have hRz : R.size ≤ 500002 := by rw [hR, str_size]; have h1 := par_len (!Rt.isAtm u) (Rt.tx u); have h2 := HUL.out u (by simp); omega
    have HRES : Hid (R ++ str [43] = str (Rt.tx (.plus u))) := Lib.hid (by rw [hR, str_app, Rt.tx])
    have HRR := Lib.hid hR
    clear hR
    by_cases h1 : ku = 1
    · subst h1
      have HPR : Hid (R = U) := Lib.hid (by
        rw [HRR.out, HUU.out, k_atm u (.inl hkk.symm)]
        rfl)
      clear hkk
      have y1 : ¬ 9223372036854775807 < U.size + 1 := by omega
      go_enter Tryd.func21, Tryd.ntmps21
      go_wp2_with (first | (go_at_call 25; refine HK.out.mono ?_; rintro e w1 ⟨v1, rfl, i1, k1⟩; obtain ⟨A5, c5, hv1⟩ := i1.form; rw [HKL.out] at hv1; subst hv1; have I1 := Lib.hid i1; have K1 := Lib.hid k1; have d0 := (k1.cell (p := ⟨b, off + p * 8, none⟩) HBB.out).trans HC0.out; have d6 := (k1.cell (p := ⟨b, off + p * 8 + 6, none⟩) HBB.out).trans HC6.out; have d7 := (k1.cell (p := ⟨b, off + p * 8 + 7, none⟩) HBB.out).trans HC7.out; obtain ⟨g5, o5, rfl, hg5, hc5⟩ := (ints.row I1.out) 0 (by rw [HKL.out]; decide); rw [HAT.out, Nat.add_zero] at hc5; have HC := Lib.hid (HCC.out w1 (H.out.below K1.out)); clear i1 k1) | (go_at_call 21; refine HC.out.mono ?_; rintro e w9 ⟨rfl, k9⟩; have K9 := Lib.hid k9; have HN9 := Lib.hid ((H.out.below K1.out).below k9); have hku := HKU.out _ HN9.out; have c5 := (k9.cell (p := ⟨g5, o5, none⟩) hg5).trans hc5; have f0 := (k9.cell (p := ⟨b, off + p * 8, none⟩) (Nat.lt_of_lt_of_le HBB.out K1.out.size)).trans d0; have f6 := (k9.cell (p := ⟨b, off + p * 8 + 6, none⟩) (Nat.lt_of_lt_of_le HBB.out K1.out.size)).trans d6; have f7 := (k9.cell (p := ⟨b, off + p * 8 + 7, none⟩) (Nat.lt_of_lt_of_le HBB.out K1.out.size)).trans d7; clear k9 d0 d6 d7 hc5))
      go_ret
      exact ⟨retS ((fin1 _ _ [43] _ HPR.out rfl).trans HRES.out), grows K1.out K9.out⟩
    · by_cases h2 : ku = 2
      · subst h2
        have HPR : Hid (R = U) := Lib.hid (by
          rw [HRR.out, HUU.out, k_atm u (.inr hkk.symm)]
          rfl)
        clear hkk h1
        have y1 : ¬ 9223372036854775807 < U.size + 1 := by omega
        go_enter Tryd.func21, Tryd.ntmps21
        go_wp2_with (first | (go_at_call 25; refine HK.out.mono ?_; rintro e w1 ⟨v1, rfl, i1, k1⟩; obtain ⟨A5, c5, hv1⟩ := i1.form; rw [HKL.out] at hv1; subst hv1; have I1 := Lib.hid i1; have K1 := Lib.hid k1; have d0 := (k1.cell (p := ⟨b, off + p * 8, none⟩) HBB.out).trans HC0.out; have d6 := (k1.cell (p := ⟨b, off + p * 8 + 6, none⟩) HBB.out).trans HC6.out; have d7 := (k1.cell (p := ⟨b, off + p * 8 + 7, none⟩) HBB.out).trans HC7.out; obtain ⟨g5, o5, rfl, hg5, hc5⟩ := (ints.row I1.out) 0 (by rw [HKL.out]; decide); rw [HAT.out, Nat.add_zero] at hc5; have HC := Lib.hid (HCC.out w1 (H.out.below K1.out)); clear i1 k1) | (go_at_call 21; refine HC.out.mono ?_; rintro e w9 ⟨rfl, k9⟩; have K9 := Lib.hid k9; have HN9 := Lib.hid ((H.out.below K1.out).below k9); have hku := HKU.out _ HN9.out; have c5 := (k9.cell (p := ⟨g5, o5, none⟩) hg5).trans hc5; have f0 := (k9.cell (p := ⟨b, off + p * 8, none⟩) (Nat.lt_of_lt_of_le HBB.out K1.out.size)).trans d0; have f6 := (k9.cell (p := ⟨b, off + p * 8 + 6, none⟩) (Nat.lt_of_lt_of_le HBB.out K1.out.size)).trans d6; have f7 := (k9.cell (p := ⟨b, off + p * 8 + 7, none⟩) (Nat.lt_of_lt_of_le HBB.out K1.out.size)).trans d7; clear k9 d0 d6 d7 hc5))
        go_ret
        exact ⟨retS ((fin1 _ _ [43] _ HPR.out rfl).trans HRES.out), grows K1.out K9.out⟩
      · skip
        have n1 : (ku == 1) = false := by simp [h1]
        have n2 : (ku == 2) = false := by simp [h2]
        have n1b : (ku != 1) = true := by simp [h1]
        have n2b : (ku != 2) = true := by simp [h2]
        have HPR : Hid (R = ⟨#[40]⟩ ++ U ++ ⟨#[41]⟩) := Lib.hid (by
          rw [HRR.out, HUU.out, k_big u (by rw [← hkk]; exact h1) (by rw [← hkk]; exact h2), par_t]
          rfl)
        clear hkk h1 h2
        have z1 : ¬ 9223372036854775807 < 1 + U.size := by omega
        have z2 : ¬ 9223372036854775807 < 1 + U.size + 1 := by omega
        have y1 : ¬ 9223372036854775807 < 1 + U.size + 1 + 1 := by omega
        go_enter Tryd.func21, Tryd.ntmps21
        go_wp2_with (first | (go_at_call 25; refine HK.out.mono ?_; rintro e w1 ⟨v1, rfl, i1, k1⟩; obtain ⟨A5, c5, hv1⟩ := i1.form; rw [HKL.out] at hv1; subst hv1; have I1 := Lib.hid i1; have K1 := Lib.hid k1; have d0 := (k1.cell (p := ⟨b, off + p * 8, none⟩) HBB.out).trans HC0.out; have d6 := (k1.cell (p := ⟨b, off + p * 8 + 6, none⟩) HBB.out).trans HC6.out; have d7 := (k1.cell (p := ⟨b, off + p * 8 + 7, none⟩) HBB.out).trans HC7.out; obtain ⟨g5, o5, rfl, hg5, hc5⟩ := (ints.row I1.out) 0 (by rw [HKL.out]; decide); rw [HAT.out, Nat.add_zero] at hc5; have HC := Lib.hid (HCC.out w1 (H.out.below K1.out)); clear i1 k1) | (go_at_call 21; refine HC.out.mono ?_; rintro e w9 ⟨rfl, k9⟩; have K9 := Lib.hid k9; have HN9 := Lib.hid ((H.out.below K1.out).below k9); have hku := HKU.out _ HN9.out; have c5 := (k9.cell (p := ⟨g5, o5, none⟩) hg5).trans hc5; have f0 := (k9.cell (p := ⟨b, off + p * 8, none⟩) (Nat.lt_of_lt_of_le HBB.out K1.out.size)).trans d0; have f6 := (k9.cell (p := ⟨b, off + p * 8 + 6, none⟩) (Nat.lt_of_lt_of_le HBB.out K1.out.size)).trans d6; have f7 := (k9.cell (p := ⟨b, off + p * 8 + 7, none⟩) (Nat.lt_of_lt_of_le HBB.out K1.out.size)).trans d7; clear k9 d0 d6 d7 hc5))
        go_ret
        exact ⟨retS ((fin1 _ _ [43] _ HPR.out rfl).trans HRES.out), grows K1.out K9.out⟩
  | opt u =>
    dsimp only [hd, kidsT] at HC0 HC6 HC7 HCS HKL HK HKid HKB HUL
    obtain ⟨KK, hKK⟩ : ∃ KK, KK = kidsM l [u].length ((p : Int) + 1) := ⟨_, rfl⟩
    rw [← hKK] at HKL HK HKid
    clear hKK
    obtain ⟨q, hq, hqN, hcall, hkind⟩ := HKid.out 0 u rfl
    have HL1 : Hid (KK.length = 1) := Lib.hid HKL.out
    have HKL := HL1
    have HAT : Hid (at' KK 0 = (q : Int)) := Lib.hid (by
      have h1 := at_get (l := KK) (i := 0) (by rw [HL1.out]; decide)
      rw [hq] at h1
      exact (Option.some.inj h1).symm)
    have hq0 : (0 : Int) ≤ (q : Int) := by omega
    obtain ⟨U, hU⟩ : ∃ U, U = str (Rt.tx u) := ⟨_, rfl⟩
    have hUz : U.size ≤ 500000 := by rw [hU, str_size]; exact HUL.out u (by simp)
    have HUU := Lib.hid hU
    rw [← hU] at hcall
    have HKU : Hid (∀ x, nds x (some ⟨b, off, none⟩) l → x.cell? ⟨b, off + q * 8, none⟩ = some (.int .i64 (kd u))) := Lib.hid (fun x hx => by
      obtain ⟨b2, o2, hbo, hku⟩ := hkind x hx
      injection hbo with hbo; injection hbo with e1 e2 _; subst e1; subst e2
      exact hku)
    obtain ⟨ku, hkk⟩ : ∃ ku, ku = kd u := ⟨_, rfl⟩
    rw [← hkk] at HKU
    have HCC := Lib.hid hcall
    clear hq hcall hkind hU
    obtain ⟨R, hR⟩ : ∃ R, R = str (Rt.par (!Rt.isAtm u) (Rt.tx u)) := ⟨_, rfl⟩
    have hRz : R.size ≤ 500002 := by rw [hR, str_size]; have h1 := par_len (!Rt.isAtm u) (Rt.tx u); have h2 := HUL.out u (by simp); omega
    have HRES : Hid (R ++ str [63] = str (Rt.tx (.opt u))) := Lib.hid (by rw [hR, str_app, Rt.tx])
    have HRR := Lib.hid hR
    clear hR
    by_cases h1 : ku = 1
    · subst h1
      have HPR : Hid (R = U) := Lib.hid (by
        rw [HRR.out, HUU.out, k_atm u (.inl hkk.symm)]
        rfl)
      clear hkk
      have y1 : ¬ 9223372036854775807 < U.size + 1 := by omega
      go_enter Tryd.func21, Tryd.ntmps21
      go_wp2_with (first | (go_at_call 25; refine HK.out.mono ?_; rintro e w1 ⟨v1, rfl, i1, k1⟩; obtain ⟨A5, c5, hv1⟩ := i1.form; rw [HKL.out] at hv1; subst hv1; have I1 := Lib.hid i1; have K1 := Lib.hid k1; have d0 := (k1.cell (p := ⟨b, off + p * 8, none⟩) HBB.out).trans HC0.out; have d6 := (k1.cell (p := ⟨b, off + p * 8 + 6, none⟩) HBB.out).trans HC6.out; have d7 := (k1.cell (p := ⟨b, off + p * 8 + 7, none⟩) HBB.out).trans HC7.out; obtain ⟨g5, o5, rfl, hg5, hc5⟩ := (ints.row I1.out) 0 (by rw [HKL.out]; decide); rw [HAT.out, Nat.add_zero] at hc5; have HC := Lib.hid (HCC.out w1 (H.out.below K1.out)); clear i1 k1) | (go_at_call 21; refine HC.out.mono ?_; rintro e w9 ⟨rfl, k9⟩; have K9 := Lib.hid k9; have HN9 := Lib.hid ((H.out.below K1.out).below k9); have hku := HKU.out _ HN9.out; have c5 := (k9.cell (p := ⟨g5, o5, none⟩) hg5).trans hc5; have f0 := (k9.cell (p := ⟨b, off + p * 8, none⟩) (Nat.lt_of_lt_of_le HBB.out K1.out.size)).trans d0; have f6 := (k9.cell (p := ⟨b, off + p * 8 + 6, none⟩) (Nat.lt_of_lt_of_le HBB.out K1.out.size)).trans d6; have f7 := (k9.cell (p := ⟨b, off + p * 8 + 7, none⟩) (Nat.lt_of_lt_of_le HBB.out K1.out.size)).trans d7; clear k9 d0 d6 d7 hc5))
      go_ret
      exact ⟨retS ((fin1 _ _ [63] _ HPR.out rfl).trans HRES.out), grows K1.out K9.out⟩
    · by_cases h2 : ku = 2
      · subst h2
        have HPR : Hid (R = U) := Lib.hid (by
          rw [HRR.out, HUU.out, k_atm u (.inr hkk.symm)]
          rfl)
        clear hkk h1
        have y1 : ¬ 9223372036854775807 < U.size + 1 := by omega
        go_enter Tryd.func21, Tryd.ntmps21
        go_wp2_with (first | (go_at_call 25; refine HK.out.mono ?_; rintro e w1 ⟨v1, rfl, i1, k1⟩; obtain ⟨A5, c5, hv1⟩ := i1.form; rw [HKL.out] at hv1; subst hv1; have I1 := Lib.hid i1; have K1 := Lib.hid k1; have d0 := (k1.cell (p := ⟨b, off + p * 8, none⟩) HBB.out).trans HC0.out; have d6 := (k1.cell (p := ⟨b, off + p * 8 + 6, none⟩) HBB.out).trans HC6.out; have d7 := (k1.cell (p := ⟨b, off + p * 8 + 7, none⟩) HBB.out).trans HC7.out; obtain ⟨g5, o5, rfl, hg5, hc5⟩ := (ints.row I1.out) 0 (by rw [HKL.out]; decide); rw [HAT.out, Nat.add_zero] at hc5; have HC := Lib.hid (HCC.out w1 (H.out.below K1.out)); clear i1 k1) | (go_at_call 21; refine HC.out.mono ?_; rintro e w9 ⟨rfl, k9⟩; have K9 := Lib.hid k9; have HN9 := Lib.hid ((H.out.below K1.out).below k9); have hku := HKU.out _ HN9.out; have c5 := (k9.cell (p := ⟨g5, o5, none⟩) hg5).trans hc5; have f0 := (k9.cell (p := ⟨b, off + p * 8, none⟩) (Nat.lt_of_lt_of_le HBB.out K1.out.size)).trans d0; have f6 := (k9.cell (p := ⟨b, off + p * 8 + 6, none⟩) (Nat.lt_of_lt_of_le HBB.out K1.out.size)).trans d6; have f7 := (k9.cell (p := ⟨b, off + p * 8 + 7, none⟩) (Nat.lt_of_lt_of_le HBB.out K1.out.size)).trans d7; clear k9 d0 d6 d7 hc5))
        go_ret
        exact ⟨retS ((fin1 _ _ [63] _ HPR.out rfl).trans HRES.out), grows K1.out K9.out⟩
      · skip
        have n1 : (ku == 1) = false := by simp [h1]
        have n2 : (ku == 2) = false := by simp [h2]
        have n1b : (ku != 1) = true := by simp [h1]
        have n2b : (ku != 2) = true := by simp [h2]
        have HPR : Hid (R = ⟨#[40]⟩ ++ U ++ ⟨#[41]⟩) := Lib.hid (by
          rw [HRR.out, HUU.out, k_big u (by rw [← hkk]; exact h1) (by rw [← hkk]; exact h2), par_t]
          rfl)
        clear hkk h1 h2
        have z1 : ¬ 9223372036854775807 < 1 + U.size := by omega
        have z2 : ¬ 9223372036854775807 < 1 + U.size + 1 := by omega
        have y1 : ¬ 9223372036854775807 < 1 + U.size + 1 + 1 := by omega
        go_enter Tryd.func21, Tryd.ntmps21
        go_wp2_with (first | (go_at_call 25; refine HK.out.mono ?_; rintro e w1 ⟨v1, rfl, i1, k1⟩; obtain ⟨A5, c5, hv1⟩ := i1.form; rw [HKL.out] at hv1; subst hv1; have I1 := Lib.hid i1; have K1 := Lib.hid k1; have d0 := (k1.cell (p := ⟨b, off + p * 8, none⟩) HBB.out).trans HC0.out; have d6 := (k1.cell (p := ⟨b, off + p * 8 + 6, none⟩) HBB.out).trans HC6.out; have d7 := (k1.cell (p := ⟨b, off + p * 8 + 7, none⟩) HBB.out).trans HC7.out; obtain ⟨g5, o5, rfl, hg5, hc5⟩ := (ints.row I1.out) 0 (by rw [HKL.out]; decide); rw [HAT.out, Nat.add_zero] at hc5; have HC := Lib.hid (HCC.out w1 (H.out.below K1.out)); clear i1 k1) | (go_at_call 21; refine HC.out.mono ?_; rintro e w9 ⟨rfl, k9⟩; have K9 := Lib.hid k9; have HN9 := Lib.hid ((H.out.below K1.out).below k9); have hku := HKU.out _ HN9.out; have c5 := (k9.cell (p := ⟨g5, o5, none⟩) hg5).trans hc5; have f0 := (k9.cell (p := ⟨b, off + p * 8, none⟩) (Nat.lt_of_lt_of_le HBB.out K1.out.size)).trans d0; have f6 := (k9.cell (p := ⟨b, off + p * 8 + 6, none⟩) (Nat.lt_of_lt_of_le HBB.out K1.out.size)).trans d6; have f7 := (k9.cell (p := ⟨b, off + p * 8 + 7, none⟩) (Nat.lt_of_lt_of_le HBB.out K1.out.size)).trans d7; clear k9 d0 d6 d7 hc5))
        go_ret
        exact ⟨retS ((fin1 _ _ [63] _ HPR.out rfl).trans HRES.out), grows K1.out K9.out⟩
  | rep lo hi u =>
    dsimp only [hd, kidsT] at HC0 HC6 HC7 HCS HKL HK HKid HKB HUL
    obtain ⟨KK, hKK⟩ : ∃ KK, KK = kidsM l [u].length ((p : Int) + 1) := ⟨_, rfl⟩
    rw [← hKK] at HKL HK HKid
    clear hKK
    obtain ⟨q, hq, hqN, hcall, hkind⟩ := HKid.out 0 u rfl
    have HL1 : Hid (KK.length = 1) := Lib.hid HKL.out
    have HKL := HL1
    have HAT : Hid (at' KK 0 = (q : Int)) := Lib.hid (by
      have h1 := at_get (l := KK) (i := 0) (by rw [HL1.out]; decide)
      rw [hq] at h1
      exact (Option.some.inj h1).symm)
    have hq0 : (0 : Int) ≤ (q : Int) := by omega
    obtain ⟨U, hU⟩ : ∃ U, U = str (Rt.tx u) := ⟨_, rfl⟩
    have hUz : U.size ≤ 500000 := by rw [hU, str_size]; exact HUL.out u (by simp)
    have HUU := Lib.hid hU
    rw [← hU] at hcall
    have HKU : Hid (∀ x, nds x (some ⟨b, off, none⟩) l → x.cell? ⟨b, off + q * 8, none⟩ = some (.int .i64 (kd u))) := Lib.hid (fun x hx => by
      obtain ⟨b2, o2, hbo, hku⟩ := hkind x hx
      injection hbo with hbo; injection hbo with e1 e2 _; subst e1; subst e2
      exact hku)
    obtain ⟨ku, hkk⟩ : ∃ ku, ku = kd u := ⟨_, rfl⟩
    rw [← hkk] at HKU
    have HCC := Lib.hid hcall
    clear hq hcall hkind hU
    obtain ⟨R, hR⟩ : ∃ R, R = str (Rt.par (!Rt.isAtm u) (Rt.tx u)) := ⟨_, rfl⟩
    have hRz : R.size ≤ 500002 := by rw [hR, str_size]; have h1 := par_len (!Rt.isAtm u) (Rt.tx u); have h2 := HUL.out u (by simp); omega
    have HRES : Hid (R ++ str (Rt.timQ lo hi) = str (Rt.tx (.rep lo hi u))) := Lib.hid (by rw [hR, str_app, Rt.tx])
    have HRR := Lib.hid hR
    clear hR
    have hlo : lo ≤ 30 := by have := HOK.out; unfold okT at this; exact this.1
    have hhi0 : hi = -1 ∨ ((lo : Int) ≤ hi ∧ hi ≤ 30) := by have := HOK.out; unfold okT at this; exact this.2.1
    obtain ⟨D, hD⟩ : ∃ D, D = str (Rt.decQ lo) := ⟨_, rfl⟩
    obtain ⟨V, hV⟩ : ∃ V, V = str (Rt.decQ hi.toNat) := ⟨_, rfl⟩
    have hDz : D.size ≤ 2 := by rw [hD, str_size]; exact decQ_len _
    have hVz : V.size ≤ 2 := by rw [hV, str_size]; exact decQ_len _
    have HDD := Lib.hid hD
    have HVV := Lib.hid hV
    have HD : Hid (∀ x, Calls Tryd.prog 32 #[.int .i64 (lo : Int)] x fun e w' => e = .returned (.string D) ∧ Below x.heap.size x w') := Lib.hid (fun x => by rw [hD]; exact Rb.Digits_any hlo x)
    have HE : Hid (∀ x, 0 ≤ hi → Calls Tryd.prog 32 #[.int .i64 hi] x fun e w' => e = .returned (.string V) ∧ Below x.heap.size x w') := Lib.hid (fun x h0 => by
      obtain ⟨m, rfl⟩ := Int.eq_ofNat_of_zero_le h0
      rw [hV]; exact Rb.Digits_any (by omega) x)
    have HCASE : Hid ((hi < 0 ∧ Rt.timQ lo hi = 123 :: (Rt.decQ lo ++ [44] ++ [125])) ∨ (¬ hi < 0 ∧ ¬ (lo : Int) < hi ∧ Rt.timQ lo hi = 123 :: (Rt.decQ lo ++ [125])) ∨ (¬ hi < 0 ∧ (lo : Int) < hi ∧ Rt.timQ lo hi = 123 :: (Rt.decQ lo ++ (44 :: Rt.decQ hi.toNat) ++ [125]))) := Lib.hid (by
      unfold Rt.timQ
      by_cases h1 : hi < 0
      · exact .inl ⟨h1, by rw [if_pos h1]⟩
      · by_cases h2 : (lo : Int) < hi
        · exact .inr (.inr ⟨h1, h2, by rw [if_neg h1, if_pos h2]⟩)
        · exact .inr (.inl ⟨h1, h2, by rw [if_neg h1, if_neg h2, List.append_nil]⟩))
    clear hD hV hhi0
    by_cases h1 : ku = 1
    · subst h1
      have HPR : Hid (R = U) := Lib.hid (by
        rw [HRR.out, HUU.out, k_atm u (.inl hkk.symm)]
        rfl)
      clear hkk
      have y1 : ¬ 9223372036854775807 < U.size + 1 := by omega
      have y2 : ¬ 9223372036854775807 < U.size + 1 + D.size := by omega
      have y3 : ¬ 9223372036854775807 < U.size + 1 + D.size + 1 := by omega
      have y4 : ¬ 9223372036854775807 < U.size + 1 + D.size + 2 := by omega
      rcases HCASE.out with ⟨hhi, HT⟩ | ⟨hh0, hhi, HT⟩ | ⟨hh0, hhi, HT⟩
      · have HTT := Lib.hid HT
        clear HT
        go_enter Tryd.func21, Tryd.ntmps21
        go_wp2_with (first | (go_at_call 25; refine HK.out.mono ?_; rintro e w1 ⟨v1, rfl, i1, k1⟩; obtain ⟨A5, c5, hv1⟩ := i1.form; rw [HKL.out] at hv1; subst hv1; have I1 := Lib.hid i1; have K1 := Lib.hid k1; have d0 := (k1.cell (p := ⟨b, off + p * 8, none⟩) HBB.out).trans HC0.out; have d6 := (k1.cell (p := ⟨b, off + p * 8 + 6, none⟩) HBB.out).trans HC6.out; have d7 := (k1.cell (p := ⟨b, off + p * 8 + 7, none⟩) HBB.out).trans HC7.out; obtain ⟨g5, o5, rfl, hg5, hc5⟩ := (ints.row I1.out) 0 (by rw [HKL.out]; decide); rw [HAT.out, Nat.add_zero] at hc5; have HC := Lib.hid (HCC.out w1 (H.out.below K1.out)); clear i1 k1) | (go_at_call 21; refine HC.out.mono ?_; rintro e w9 ⟨rfl, k9⟩; have K9 := Lib.hid k9; have HN9 := Lib.hid ((H.out.below K1.out).below k9); have hku := HKU.out _ HN9.out; have c5 := (k9.cell (p := ⟨g5, o5, none⟩) hg5).trans hc5; have f0 := (k9.cell (p := ⟨b, off + p * 8, none⟩) (Nat.lt_of_lt_of_le HBB.out K1.out.size)).trans d0; have f6 := (k9.cell (p := ⟨b, off + p * 8 + 6, none⟩) (Nat.lt_of_lt_of_le HBB.out K1.out.size)).trans d6; have f7 := (k9.cell (p := ⟨b, off + p * 8 + 7, none⟩) (Nat.lt_of_lt_of_le HBB.out K1.out.size)).trans d7; clear k9 d0 d6 d7 hc5) | (go_at_call 32; (with_reducible refine (HD.out _).mono ?_); rintro e w8 ⟨rfl, k8⟩; have K8 := Lib.hid (grows K9.out k8); have HB8 : Hid (b < w9.heap.size) := Lib.hid (Nat.lt_of_lt_of_le (Nat.lt_of_lt_of_le HBB.out K1.out.size) K9.out.size); have g6 := (k8.cell (p := ⟨b, off + p * 8 + 6, none⟩) HB8.out).trans f6; have g7 := (k8.cell (p := ⟨b, off + p * 8 + 7, none⟩) HB8.out).trans f7; clear k8 f0 f6 f7))
        go_ret
        exact ⟨retS (by rw [← HRES.out, HDD.out]; exact fin3 _ _ [123] (Rt.decQ lo) [44, 125] _ HPR.out (by rw [HTT.out]; simp)), grows K1.out K8.out⟩
      · have HTT := Lib.hid HT
        clear HT
        go_enter Tryd.func21, Tryd.ntmps21
        go_wp2_with (first | (go_at_call 25; refine HK.out.mono ?_; rintro e w1 ⟨v1, rfl, i1, k1⟩; obtain ⟨A5, c5, hv1⟩ := i1.form; rw [HKL.out] at hv1; subst hv1; have I1 := Lib.hid i1; have K1 := Lib.hid k1; have d0 := (k1.cell (p := ⟨b, off + p * 8, none⟩) HBB.out).trans HC0.out; have d6 := (k1.cell (p := ⟨b, off + p * 8 + 6, none⟩) HBB.out).trans HC6.out; have d7 := (k1.cell (p := ⟨b, off + p * 8 + 7, none⟩) HBB.out).trans HC7.out; obtain ⟨g5, o5, rfl, hg5, hc5⟩ := (ints.row I1.out) 0 (by rw [HKL.out]; decide); rw [HAT.out, Nat.add_zero] at hc5; have HC := Lib.hid (HCC.out w1 (H.out.below K1.out)); clear i1 k1) | (go_at_call 21; refine HC.out.mono ?_; rintro e w9 ⟨rfl, k9⟩; have K9 := Lib.hid k9; have HN9 := Lib.hid ((H.out.below K1.out).below k9); have hku := HKU.out _ HN9.out; have c5 := (k9.cell (p := ⟨g5, o5, none⟩) hg5).trans hc5; have f0 := (k9.cell (p := ⟨b, off + p * 8, none⟩) (Nat.lt_of_lt_of_le HBB.out K1.out.size)).trans d0; have f6 := (k9.cell (p := ⟨b, off + p * 8 + 6, none⟩) (Nat.lt_of_lt_of_le HBB.out K1.out.size)).trans d6; have f7 := (k9.cell (p := ⟨b, off + p * 8 + 7, none⟩) (Nat.lt_of_lt_of_le HBB.out K1.out.size)).trans d7; clear k9 d0 d6 d7 hc5) | (go_at_call 32; (with_reducible refine (HD.out _).mono ?_); rintro e w8 ⟨rfl, k8⟩; have K8 := Lib.hid (grows K9.out k8); have HB8 : Hid (b < w9.heap.size) := Lib.hid (Nat.lt_of_lt_of_le (Nat.lt_of_lt_of_le HBB.out K1.out.size) K9.out.size); have g6 := (k8.cell (p := ⟨b, off + p * 8 + 6, none⟩) HB8.out).trans f6; have g7 := (k8.cell (p := ⟨b, off + p * 8 + 7, none⟩) HB8.out).trans f7; clear k8 f0 f6 f7))
        go_quiet (fail)
        go_wp2
        go_ret
        exact ⟨retS (by rw [← HRES.out, HDD.out]; exact fin3 _ _ [123] (Rt.decQ lo) [125] _ HPR.out (by rw [HTT.out]; simp)), grows K1.out (grows K8.out (below_draws _ _))⟩
      · have HTT := Lib.hid HT
        have HE5 := Lib.hid (fun x => HE.out x (by omega))
        clear HT
        have y5 : ¬ 9223372036854775807 < U.size + 1 + D.size + 1 + V.size := by omega
        have y6 : ¬ 9223372036854775807 < U.size + 1 + D.size + 1 + V.size + 1 := by omega
        go_enter Tryd.func21, Tryd.ntmps21
        go_wp2_with (first | (go_at_call 25; refine HK.out.mono ?_; rintro e w1 ⟨v1, rfl, i1, k1⟩; obtain ⟨A5, c5, hv1⟩ := i1.form; rw [HKL.out] at hv1; subst hv1; have I1 := Lib.hid i1; have K1 := Lib.hid k1; have d0 := (k1.cell (p := ⟨b, off + p * 8, none⟩) HBB.out).trans HC0.out; have d6 := (k1.cell (p := ⟨b, off + p * 8 + 6, none⟩) HBB.out).trans HC6.out; have d7 := (k1.cell (p := ⟨b, off + p * 8 + 7, none⟩) HBB.out).trans HC7.out; obtain ⟨g5, o5, rfl, hg5, hc5⟩ := (ints.row I1.out) 0 (by rw [HKL.out]; decide); rw [HAT.out, Nat.add_zero] at hc5; have HC := Lib.hid (HCC.out w1 (H.out.below K1.out)); clear i1 k1) | (go_at_call 21; refine HC.out.mono ?_; rintro e w9 ⟨rfl, k9⟩; have K9 := Lib.hid k9; have HN9 := Lib.hid ((H.out.below K1.out).below k9); have hku := HKU.out _ HN9.out; have c5 := (k9.cell (p := ⟨g5, o5, none⟩) hg5).trans hc5; have f0 := (k9.cell (p := ⟨b, off + p * 8, none⟩) (Nat.lt_of_lt_of_le HBB.out K1.out.size)).trans d0; have f6 := (k9.cell (p := ⟨b, off + p * 8 + 6, none⟩) (Nat.lt_of_lt_of_le HBB.out K1.out.size)).trans d6; have f7 := (k9.cell (p := ⟨b, off + p * 8 + 7, none⟩) (Nat.lt_of_lt_of_le HBB.out K1.out.size)).trans d7; clear k9 d0 d6 d7 hc5) | (go_at_call 32; (with_reducible refine (HD.out _).mono ?_); rintro e w8 ⟨rfl, k8⟩; have K8 := Lib.hid (grows K9.out k8); have HB8 : Hid (b < w9.heap.size) := Lib.hid (Nat.lt_of_lt_of_le (Nat.lt_of_lt_of_le HBB.out K1.out.size) K9.out.size); have g6 := (k8.cell (p := ⟨b, off + p * 8 + 6, none⟩) HB8.out).trans f6; have g7 := (k8.cell (p := ⟨b, off + p * 8 + 7, none⟩) HB8.out).trans f7; clear k8 f0 f6 f7))
        go_quiet (fail)
        obtain ⟨w5, hw5⟩ : ∃ w5, w5 = w8.drewN nq := ⟨_, rfl⟩
        have h7 : w5.cell? ⟨b, off + p * 8 + 7, none⟩ = some (.int .i64 hi) := by rw [hw5]; exact g7
        have K5 := Lib.hid (show Below w1.heap.size w1 w5 from by rw [hw5]; exact grows K8.out (below_draws _ _))
        rw [← hw5]
        clear hw5 g6 g7
        go_wp2_with (go_at_call 32; refine (HE5.out _).mono ?_; rintro e w7 ⟨rfl, k7⟩; have K7 := Lib.hid (grows K5.out k7); clear k7)
        go_ret
        exact ⟨retS (by rw [← HRES.out, HDD.out, HVV.out]; exact fin5 _ _ [123] (Rt.decQ lo) [44] (Rt.decQ hi.toNat) [125] _ HPR.out (by rw [HTT.out]; simp)), grows K1.out K7.out⟩
    · by_cases h2 : ku = 2
      · subst h2
        have HPR : Hid (R = U) := Lib.hid (by
          rw [HRR.out, HUU.out, k_atm u (.inr hkk.symm)]
          rfl)
        clear hkk h1
        have y1 : ¬ 9223372036854775807 < U.size + 1 := by omega
        have y2 : ¬ 9223372036854775807 < U.size + 1 + D.size := by omega
        have y3 : ¬ 9223372036854775807 < U.size + 1 + D.size + 1 := by omega
        have y4 : ¬ 9223372036854775807 < U.size + 1 + D.size + 2 := by omega
        rcases HCASE.out with ⟨hhi, HT⟩ | ⟨hh0, hhi, HT⟩ | ⟨hh0, hhi, HT⟩
        · have HTT := Lib.hid HT
          clear HT
          go_enter Tryd.func21, Tryd.ntmps21
          go_wp2_with (first | (go_at_call 25; refine HK.out.mono ?_; rintro e w1 ⟨v1, rfl, i1, k1⟩; obtain ⟨A5, c5, hv1⟩ := i1.form; rw [HKL.out] at hv1; subst hv1; have I1 := Lib.hid i1; have K1 := Lib.hid k1; have d0 := (k1.cell (p := ⟨b, off + p * 8, none⟩) HBB.out).trans HC0.out; have d6 := (k1.cell (p := ⟨b, off + p * 8 + 6, none⟩) HBB.out).trans HC6.out; have d7 := (k1.cell (p := ⟨b, off + p * 8 + 7, none⟩) HBB.out).trans HC7.out; obtain ⟨g5, o5, rfl, hg5, hc5⟩ := (ints.row I1.out) 0 (by rw [HKL.out]; decide); rw [HAT.out, Nat.add_zero] at hc5; have HC := Lib.hid (HCC.out w1 (H.out.below K1.out)); clear i1 k1) | (go_at_call 21; refine HC.out.mono ?_; rintro e w9 ⟨rfl, k9⟩; have K9 := Lib.hid k9; have HN9 := Lib.hid ((H.out.below K1.out).below k9); have hku := HKU.out _ HN9.out; have c5 := (k9.cell (p := ⟨g5, o5, none⟩) hg5).trans hc5; have f0 := (k9.cell (p := ⟨b, off + p * 8, none⟩) (Nat.lt_of_lt_of_le HBB.out K1.out.size)).trans d0; have f6 := (k9.cell (p := ⟨b, off + p * 8 + 6, none⟩) (Nat.lt_of_lt_of_le HBB.out K1.out.size)).trans d6; have f7 := (k9.cell (p := ⟨b, off + p * 8 + 7, none⟩) (Nat.lt_of_lt_of_le HBB.out K1.out.size)).trans d7; clear k9 d0 d6 d7 hc5) | (go_at_call 32; (with_reducible refine (HD.out _).mono ?_); rintro e w8 ⟨rfl, k8⟩; have K8 := Lib.hid (grows K9.out k8); have HB8 : Hid (b < w9.heap.size) := Lib.hid (Nat.lt_of_lt_of_le (Nat.lt_of_lt_of_le HBB.out K1.out.size) K9.out.size); have g6 := (k8.cell (p := ⟨b, off + p * 8 + 6, none⟩) HB8.out).trans f6; have g7 := (k8.cell (p := ⟨b, off + p * 8 + 7, none⟩) HB8.out).trans f7; clear k8 f0 f6 f7))
          go_ret
          exact ⟨retS (by rw [← HRES.out, HDD.out]; exact fin3 _ _ [123] (Rt.decQ lo) [44, 125] _ HPR.out (by rw [HTT.out]; simp)), grows K1.out K8.out⟩
        · have HTT := Lib.hid HT
          clear HT
          go_enter Tryd.func21, Tryd.ntmps21
          go_wp2_with (first | (go_at_call 25; refine HK.out.mono ?_; rintro e w1 ⟨v1, rfl, i1, k1⟩; obtain ⟨A5, c5, hv1⟩ := i1.form; rw [HKL.out] at hv1; subst hv1; have I1 := Lib.hid i1; have K1 := Lib.hid k1; have d0 := (k1.cell (p := ⟨b, off + p * 8, none⟩) HBB.out).trans HC0.out; have d6 := (k1.cell (p := ⟨b, off + p * 8 + 6, none⟩) HBB.out).trans HC6.out; have d7 := (k1.cell (p := ⟨b, off + p * 8 + 7, none⟩) HBB.out).trans HC7.out; obtain ⟨g5, o5, rfl, hg5, hc5⟩ := (ints.row I1.out) 0 (by rw [HKL.out]; decide); rw [HAT.out, Nat.add_zero] at hc5; have HC := Lib.hid (HCC.out w1 (H.out.below K1.out)); clear i1 k1) | (go_at_call 21; refine HC.out.mono ?_; rintro e w9 ⟨rfl, k9⟩; have K9 := Lib.hid k9; have HN9 := Lib.hid ((H.out.below K1.out).below k9); have hku := HKU.out _ HN9.out; have c5 := (k9.cell (p := ⟨g5, o5, none⟩) hg5).trans hc5; have f0 := (k9.cell (p := ⟨b, off + p * 8, none⟩) (Nat.lt_of_lt_of_le HBB.out K1.out.size)).trans d0; have f6 := (k9.cell (p := ⟨b, off + p * 8 + 6, none⟩) (Nat.lt_of_lt_of_le HBB.out K1.out.size)).trans d6; have f7 := (k9.cell (p := ⟨b, off + p * 8 + 7, none⟩) (Nat.lt_of_lt_of_le HBB.out K1.out.size)).trans d7; clear k9 d0 d6 d7 hc5) | (go_at_call 32; (with_reducible refine (HD.out _).mono ?_); rintro e w8 ⟨rfl, k8⟩; have K8 := Lib.hid (grows K9.out k8); have HB8 : Hid (b < w9.heap.size) := Lib.hid (Nat.lt_of_lt_of_le (Nat.lt_of_lt_of_le HBB.out K1.out.size) K9.out.size); have g6 := (k8.cell (p := ⟨b, off + p * 8 + 6, none⟩) HB8.out).trans f6; have g7 := (k8.cell (p := ⟨b, off + p * 8 + 7, none⟩) HB8.out).trans f7; clear k8 f0 f6 f7))
          go_quiet (fail)
          go_wp2
          go_ret
          exact ⟨retS (by rw [← HRES.out, HDD.out]; exact fin3 _ _ [123] (Rt.decQ lo) [125] _ HPR.out (by rw [HTT.out]; simp)), grows K1.out (grows K8.out (below_draws _ _))⟩
        · have HTT := Lib.hid HT
          have HE5 := Lib.hid (fun x => HE.out x (by omega))
          clear HT
          have y5 : ¬ 9223372036854775807 < U.size + 1 + D.size + 1 + V.size := by omega
          have y6 : ¬ 9223372036854775807 < U.size + 1 + D.size + 1 + V.size + 1 := by omega
          go_enter Tryd.func21, Tryd.ntmps21
          go_wp2_with (first | (go_at_call 25; refine HK.out.mono ?_; rintro e w1 ⟨v1, rfl, i1, k1⟩; obtain ⟨A5, c5, hv1⟩ := i1.form; rw [HKL.out] at hv1; subst hv1; have I1 := Lib.hid i1; have K1 := Lib.hid k1; have d0 := (k1.cell (p := ⟨b, off + p * 8, none⟩) HBB.out).trans HC0.out; have d6 := (k1.cell (p := ⟨b, off + p * 8 + 6, none⟩) HBB.out).trans HC6.out; have d7 := (k1.cell (p := ⟨b, off + p * 8 + 7, none⟩) HBB.out).trans HC7.out; obtain ⟨g5, o5, rfl, hg5, hc5⟩ := (ints.row I1.out) 0 (by rw [HKL.out]; decide); rw [HAT.out, Nat.add_zero] at hc5; have HC := Lib.hid (HCC.out w1 (H.out.below K1.out)); clear i1 k1) | (go_at_call 21; refine HC.out.mono ?_; rintro e w9 ⟨rfl, k9⟩; have K9 := Lib.hid k9; have HN9 := Lib.hid ((H.out.below K1.out).below k9); have hku := HKU.out _ HN9.out; have c5 := (k9.cell (p := ⟨g5, o5, none⟩) hg5).trans hc5; have f0 := (k9.cell (p := ⟨b, off + p * 8, none⟩) (Nat.lt_of_lt_of_le HBB.out K1.out.size)).trans d0; have f6 := (k9.cell (p := ⟨b, off + p * 8 + 6, none⟩) (Nat.lt_of_lt_of_le HBB.out K1.out.size)).trans d6; have f7 := (k9.cell (p := ⟨b, off + p * 8 + 7, none⟩) (Nat.lt_of_lt_of_le HBB.out K1.out.size)).trans d7; clear k9 d0 d6 d7 hc5) | (go_at_call 32; (with_reducible refine (HD.out _).mono ?_); rintro e w8 ⟨rfl, k8⟩; have K8 := Lib.hid (grows K9.out k8); have HB8 : Hid (b < w9.heap.size) := Lib.hid (Nat.lt_of_lt_of_le (Nat.lt_of_lt_of_le HBB.out K1.out.size) K9.out.size); have g6 := (k8.cell (p := ⟨b, off + p * 8 + 6, none⟩) HB8.out).trans f6; have g7 := (k8.cell (p := ⟨b, off + p * 8 + 7, none⟩) HB8.out).trans f7; clear k8 f0 f6 f7))
          go_quiet (fail)
          obtain ⟨w5, hw5⟩ : ∃ w5, w5 = w8.drewN nq := ⟨_, rfl⟩
          have h7 : w5.cell? ⟨b, off + p * 8 + 7, none⟩ = some (.int .i64 hi) := by rw [hw5]; exact g7
          have K5 := Lib.hid (show Below w1.heap.size w1 w5 from by rw [hw5]; exact grows K8.out (below_draws _ _))
          rw [← hw5]
          clear hw5 g6 g7
          go_wp2_with (go_at_call 32; refine (HE5.out _).mono ?_; rintro e w7 ⟨rfl, k7⟩; have K7 := Lib.hid (grows K5.out k7); clear k7)
          go_ret
          exact ⟨retS (by rw [← HRES.out, HDD.out, HVV.out]; exact fin5 _ _ [123] (Rt.decQ lo) [44] (Rt.decQ hi.toNat) [125] _ HPR.out (by rw [HTT.out]; simp)), grows K1.out K7.out⟩
      · skip
        have n1 : (ku == 1) = false := by simp [h1]
        have n2 : (ku == 2) = false := by simp [h2]
        have n1b : (ku != 1) = true := by simp [h1]
        have n2b : (ku != 2) = true := by simp [h2]
        have HPR : Hid (R = ⟨#[40]⟩ ++ U ++ ⟨#[41]⟩) := Lib.hid (by
          rw [HRR.out, HUU.out, k_big u (by rw [← hkk]; exact h1) (by rw [← hkk]; exact h2), par_t]
          rfl)
        clear hkk h1 h2
        have z1 : ¬ 9223372036854775807 < 1 + U.size := by omega
        have z2 : ¬ 9223372036854775807 < 1 + U.size + 1 := by omega
        have y1 : ¬ 9223372036854775807 < 1 + U.size + 1 + 1 := by omega
        have y2 : ¬ 9223372036854775807 < 1 + U.size + 1 + 1 + D.size := by omega
        have y3 : ¬ 9223372036854775807 < 1 + U.size + 1 + 1 + D.size + 1 := by omega
        have y4 : ¬ 9223372036854775807 < 1 + U.size + 1 + 1 + D.size + 2 := by omega
        rcases HCASE.out with ⟨hhi, HT⟩ | ⟨hh0, hhi, HT⟩ | ⟨hh0, hhi, HT⟩
        · have HTT := Lib.hid HT
          clear HT
          go_enter Tryd.func21, Tryd.ntmps21
          go_wp2_with (first | (go_at_call 25; refine HK.out.mono ?_; rintro e w1 ⟨v1, rfl, i1, k1⟩; obtain ⟨A5, c5, hv1⟩ := i1.form; rw [HKL.out] at hv1; subst hv1; have I1 := Lib.hid i1; have K1 := Lib.hid k1; have d0 := (k1.cell (p := ⟨b, off + p * 8, none⟩) HBB.out).trans HC0.out; have d6 := (k1.cell (p := ⟨b, off + p * 8 + 6, none⟩) HBB.out).trans HC6.out; have d7 := (k1.cell (p := ⟨b, off + p * 8 + 7, none⟩) HBB.out).trans HC7.out; obtain ⟨g5, o5, rfl, hg5, hc5⟩ := (ints.row I1.out) 0 (by rw [HKL.out]; decide); rw [HAT.out, Nat.add_zero] at hc5; have HC := Lib.hid (HCC.out w1 (H.out.below K1.out)); clear i1 k1) | (go_at_call 21; refine HC.out.mono ?_; rintro e w9 ⟨rfl, k9⟩; have K9 := Lib.hid k9; have HN9 := Lib.hid ((H.out.below K1.out).below k9); have hku := HKU.out _ HN9.out; have c5 := (k9.cell (p := ⟨g5, o5, none⟩) hg5).trans hc5; have f0 := (k9.cell (p := ⟨b, off + p * 8, none⟩) (Nat.lt_of_lt_of_le HBB.out K1.out.size)).trans d0; have f6 := (k9.cell (p := ⟨b, off + p * 8 + 6, none⟩) (Nat.lt_of_lt_of_le HBB.out K1.out.size)).trans d6; have f7 := (k9.cell (p := ⟨b, off + p * 8 + 7, none⟩) (Nat.lt_of_lt_of_le HBB.out K1.out.size)).trans d7; clear k9 d0 d6 d7 hc5) | (go_at_call 32; (with_reducible refine (HD.out _).mono ?_); rintro e w8 ⟨rfl, k8⟩; have K8 := Lib.hid (grows K9.out k8); have HB8 : Hid (b < w9.heap.size) := Lib.hid (Nat.lt_of_lt_of_le (Nat.lt_of_lt_of_le HBB.out K1.out.size) K9.out.size); have g6 := (k8.cell (p := ⟨b, off + p * 8 + 6, none⟩) HB8.out).trans f6; have g7 := (k8.cell (p := ⟨b, off + p * 8 + 7, none⟩) HB8.out).trans f7; clear k8 f0 f6 f7))
          go_ret
          exact ⟨retS (by rw [← HRES.out, HDD.out]; exact fin3 _ _ [123] (Rt.decQ lo) [44, 125] _ HPR.out (by rw [HTT.out]; simp)), grows K1.out K8.out⟩
        · have HTT := Lib.hid HT
          clear HT
          go_enter Tryd.func21, Tryd.ntmps21
          go_wp2_with (first | (go_at_call 25; refine HK.out.mono ?_; rintro e w1 ⟨v1, rfl, i1, k1⟩; obtain ⟨A5, c5, hv1⟩ := i1.form; rw [HKL.out] at hv1; subst hv1; have I1 := Lib.hid i1; have K1 := Lib.hid k1; have d0 := (k1.cell (p := ⟨b, off + p * 8, none⟩) HBB.out).trans HC0.out; have d6 := (k1.cell (p := ⟨b, off + p * 8 + 6, none⟩) HBB.out).trans HC6.out; have d7 := (k1.cell (p := ⟨b, off + p * 8 + 7, none⟩) HBB.out).trans HC7.out; obtain ⟨g5, o5, rfl, hg5, hc5⟩ := (ints.row I1.out) 0 (by rw [HKL.out]; decide); rw [HAT.out, Nat.add_zero] at hc5; have HC := Lib.hid (HCC.out w1 (H.out.below K1.out)); clear i1 k1) | (go_at_call 21; refine HC.out.mono ?_; rintro e w9 ⟨rfl, k9⟩; have K9 := Lib.hid k9; have HN9 := Lib.hid ((H.out.below K1.out).below k9); have hku := HKU.out _ HN9.out; have c5 := (k9.cell (p := ⟨g5, o5, none⟩) hg5).trans hc5; have f0 := (k9.cell (p := ⟨b, off + p * 8, none⟩) (Nat.lt_of_lt_of_le HBB.out K1.out.size)).trans d0; have f6 := (k9.cell (p := ⟨b, off + p * 8 + 6, none⟩) (Nat.lt_of_lt_of_le HBB.out K1.out.size)).trans d6; have f7 := (k9.cell (p := ⟨b, off + p * 8 + 7, none⟩) (Nat.lt_of_lt_of_le HBB.out K1.out.size)).trans d7; clear k9 d0 d6 d7 hc5) | (go_at_call 32; (with_reducible refine (HD.out _).mono ?_); rintro e w8 ⟨rfl, k8⟩; have K8 := Lib.hid (grows K9.out k8); have HB8 : Hid (b < w9.heap.size) := Lib.hid (Nat.lt_of_lt_of_le (Nat.lt_of_lt_of_le HBB.out K1.out.size) K9.out.size); have g6 := (k8.cell (p := ⟨b, off + p * 8 + 6, none⟩) HB8.out).trans f6; have g7 := (k8.cell (p := ⟨b, off + p * 8 + 7, none⟩) HB8.out).trans f7; clear k8 f0 f6 f7))
          go_quiet (fail)
          go_wp2
          go_ret
          exact ⟨retS (by rw [← HRES.out, HDD.out]; exact fin3 _ _ [123] (Rt.decQ lo) [125] _ HPR.out (by rw [HTT.out]; simp)), grows K1.out (grows K8.out (below_draws _ _))⟩
        · have HTT := Lib.hid HT
          have HE5 := Lib.hid (fun x => HE.out x (by omega))
          clear HT
          have y5 : ¬ 9223372036854775807 < 1 + U.size + 1 + 1 + D.size + 1 + V.size := by omega
          have y6 : ¬ 9223372036854775807 < 1 + U.size + 1 + 1 + D.size + 1 + V.size + 1 := by omega
          go_enter Tryd.func21, Tryd.ntmps21
          go_wp2_with (first | (go_at_call 25; refine HK.out.mono ?_; rintro e w1 ⟨v1, rfl, i1, k1⟩; obtain ⟨A5, c5, hv1⟩ := i1.form; rw [HKL.out] at hv1; subst hv1; have I1 := Lib.hid i1; have K1 := Lib.hid k1; have d0 := (k1.cell (p := ⟨b, off + p * 8, none⟩) HBB.out).trans HC0.out; have d6 := (k1.cell (p := ⟨b, off + p * 8 + 6, none⟩) HBB.out).trans HC6.out; have d7 := (k1.cell (p := ⟨b, off + p * 8 + 7, none⟩) HBB.out).trans HC7.out; obtain ⟨g5, o5, rfl, hg5, hc5⟩ := (ints.row I1.out) 0 (by rw [HKL.out]; decide); rw [HAT.out, Nat.add_zero] at hc5; have HC := Lib.hid (HCC.out w1 (H.out.below K1.out)); clear i1 k1) | (go_at_call 21; refine HC.out.mono ?_; rintro e w9 ⟨rfl, k9⟩; have K9 := Lib.hid k9; have HN9 := Lib.hid ((H.out.below K1.out).below k9); have hku := HKU.out _ HN9.out; have c5 := (k9.cell (p := ⟨g5, o5, none⟩) hg5).trans hc5; have f0 := (k9.cell (p := ⟨b, off + p * 8, none⟩) (Nat.lt_of_lt_of_le HBB.out K1.out.size)).trans d0; have f6 := (k9.cell (p := ⟨b, off + p * 8 + 6, none⟩) (Nat.lt_of_lt_of_le HBB.out K1.out.size)).trans d6; have f7 := (k9.cell (p := ⟨b, off + p * 8 + 7, none⟩) (Nat.lt_of_lt_of_le HBB.out K1.out.size)).trans d7; clear k9 d0 d6 d7 hc5) | (go_at_call 32; (with_reducible refine (HD.out _).mono ?_); rintro e w8 ⟨rfl, k8⟩; have K8 := Lib.hid (grows K9.out k8); have HB8 : Hid (b < w9.heap.size) := Lib.hid (Nat.lt_of_lt_of_le (Nat.lt_of_lt_of_le HBB.out K1.out.size) K9.out.size); have g6 := (k8.cell (p := ⟨b, off + p * 8 + 6, none⟩) HB8.out).trans f6; have g7 := (k8.cell (p := ⟨b, off + p * 8 + 7, none⟩) HB8.out).trans f7; clear k8 f0 f6 f7))
          go_quiet (fail)
          obtain ⟨w5, hw5⟩ : ∃ w5, w5 = w8.drewN nq := ⟨_, rfl⟩
          have h7 : w5.cell? ⟨b, off + p * 8 + 7, none⟩ = some (.int .i64 hi) := by rw [hw5]; exact g7
          have K5 := Lib.hid (show Below w1.heap.size w1 w5 from by rw [hw5]; exact grows K8.out (below_draws _ _))
          rw [← hw5]
          clear hw5 g6 g7
          go_wp2_with (go_at_call 32; refine (HE5.out _).mono ?_; rintro e w7 ⟨rfl, k7⟩; have K7 := Lib.hid (grows K5.out k7); clear k7)
          go_ret
          exact ⟨retS (by rw [← HRES.out, HDD.out, HVV.out]; exact fin5 _ _ [123] (Rt.decQ lo) [44] (Rt.decQ hi.toNat) [125] _ HPR.out (by rw [HTT.out]; simp)), grows K1.out K7.out⟩
end Go.Proofs.YtabcehifdomolaaDoor.Rc
namespace Go.Proofs.YtabcehifdomolaaDoor.Esx
open Go.RowKit Go.Proofs.YtabcehifdomolaaDoor.Vm Go.Proofs.YtabcehifdomolaaDoor.Vo Go.Proofs.YtabcehifdomolaaDoor.Bw Go.Proofs.YtabcehifdomolaaDoor.Na Go.Proofs.YtabcehifdomolaaDoor.Tm Go.Proofs.YtabcehifdomolaaDoor.Ta Go.Proofs.YtabcehifdomolaaDoor.Tb Go.Proofs.YtabcehifdomolaaDoor.Tf Go.Proofs.YtabcehifdomolaaDoor.Rm Go.Proofs.YtabcehifdomolaaDoor.Rv Go.Proofs.YtabcehifdomolaaDoor.Ra Go.Proofs.YtabcehifdomolaaDoor.Rf Go.Proofs.YtabcehifdomolaaDoor.Rg Go.Proofs.YtabcehifdomolaaDoor.Ec Go.Proofs.YtabcehifdomolaaDoor.Ed Go.Proofs.YtabcehifdomolaaDoor.Eh Go.Proofs.YtabcehifdomolaaDoor.Ei Go.Proofs.YtabcehifdomolaaDoor.Etb Go.Proofs.YtabcehifdomolaaDoor.Eli Go.Proofs.YtabcehifdomolaaDoor.Esh

set_option maxRecDepth 100000 in
theorem Show_no {A : Option Addr} {cap : Nat} {l : List Nd} (hl : l.length ≤ 1000000) (hc : checkI l ≠ 0) {w : World} (H : Hid (nds w A l)) :
    Calls Tryd.prog 10 #[.slice A l.length cap] w fun e w' => e = .returned (.string ⟨#[]⟩) ∧ Below w.heap.size w w' := by
  have HC := Lib.hid (Check_any (cap := cap) hl H)
  rw [(checkI_two l).resolve_left hc] at HC
  obtain ⟨N, hN⟩ : ∃ N, N = l.length := ⟨_, rfl⟩
  rw [← hN] at HC ⊢
  clear hN
  go_enter Tryd.func10, Tryd.ntmps10
  go_wp2_with (go_at_call 8; refine HC.out.mono ?_; rintro e w9 ⟨rfl, k9⟩; have K9 := Lib.hid k9; clear k9)
  go_ret
  exact ⟨rfl, K9.out⟩
set_option maxRecDepth 100000 in
theorem Show_yes {A : Option Addr} {cap : Nat} {t : T} (hok : okT t) (hcap : (enc t).length ≤ cap) (hc : checkI (enc t) = 0) (h4 : (enc t).length ≤ 400) {w : World} (H : Hid (nds w A (enc t))) (HT : Hid (tab w)) :
    Calls Tryd.prog 10 #[.slice A (enc t).length cap] w fun e w' => e = .returned (.string (str (Rt.tx t))) ∧ Below w.heap.size w w' := by
  have HC := Lib.hid (Check_any (cap := cap) (by omega) H)
  rw [hc] at HC
  have HE : Hid (∀ w', Below w.heap.size w w' → Calls Tryd.prog 20 #[.slice A (enc t).length cap] w' fun e w'' => e = .returned (.string (str (Rt.tx t))) ∧ Below w'.heap.size w' w'') := Lib.hid (fun w' k => show_all _ t (Nat.le_refl _) h4 hok w' _ ⟨A, cap, rfl, hcap, H.out.below k⟩ (HT.out.below k))
  obtain ⟨N, hN⟩ : ∃ N, N = (enc t).length := ⟨_, rfl⟩
  obtain ⟨R, hR⟩ : ∃ R, R = str (Rt.tx t) := ⟨_, rfl⟩
  rw [← hN] at HC HE ⊢
  rw [← hR] at HE ⊢
  clear hN hR h4 hcap
  go_enter Tryd.func10, Tryd.ntmps10
  go_wp2_with (first | (go_at_call 8; refine HC.out.mono ?_; rintro e w9 ⟨rfl, k9⟩; have K9 := Lib.hid k9; have HE9 := Lib.hid (HE.out w9 k9); clear k9) | (go_at_call 20; refine HE9.out.mono ?_; rintro e w8 ⟨rfl, k8⟩; have K8 := Lib.hid k8; clear k8))
  go_ret
  exact ⟨rfl, grows K9.out K8.out⟩
end Go.Proofs.YtabcehifdomolaaDoor.Esx
namespace Go.Proofs.YtabcehifdomolaaDoor.Rq
open Go.RowKit Go.Proofs.YtabcehifdomolaaDoor.Bw Go.Proofs.YtabcehifdomolaaDoor.Tm Go.Proofs.YtabcehifdomolaaDoor.Rm Go.Proofs.YtabcehifdomolaaDoor.Rv Go.Proofs.YtabcehifdomolaaDoor.Ra Go.Proofs.YtabcehifdomolaaDoor.Rg Go.Proofs.YtabcehifdomolaaDoor.Rn Go.Proofs.YtabcehifdomolaaDoor.Ei Go.Proofs.YtabcehifdomolaaDoor.Etb Go.Proofs.YtabcehifdomolaaDoor.Rc

set_option maxRecDepth 100000 in
theorem rShow_no {A : Option Addr} {cap : Nat} {l : List Nd} (hl : l.length ≤ 1000000) (hc : checkI l ≠ 0) {w : World} (H : Hid (nds w A l)) :
    Calls Tryd.prog 11 #[.slice A l.length cap] w fun e w' => e = .returned (.string ⟨#[]⟩) ∧ Below w.heap.size w w' := by
  have HC := Lib.hid (rCheck_any (cap := cap) hl H)
  rw [(checkI_two l).resolve_left hc] at HC
  obtain ⟨N, hN⟩ : ∃ N, N = l.length := ⟨_, rfl⟩
  rw [← hN] at HC ⊢
  clear hN
  go_enter Tryd.func11, Tryd.ntmps11
  go_wp2_with (go_at_call 9; refine HC.out.mono ?_; rintro e w9 ⟨rfl, k9⟩; have K9 := Lib.hid k9; clear k9)
  go_ret
  exact ⟨rfl, K9.out⟩
set_option maxRecDepth 100000 in
theorem rShow_yes {A : Option Addr} {cap : Nat} {t : T} (hok : okT t) (hc : checkI (enc t) = 0) (h4 : (enc t).length ≤ 400) {w : World} (H : Hid (nds w A (enc t))) :
    Calls Tryd.prog 11 #[.slice A (enc t).length cap] w fun e w' => e = .returned (.string (str (Rt.tx t))) ∧ Below w.heap.size w w' := by
  have HC := Lib.hid (rCheck_any (cap := cap) (by omega) H)
  rw [hc] at HC
  have HE : Hid (∀ w', Below w.heap.size w w' → Calls Tryd.prog 21 #[.slice A (enc t).length cap, .int .i64 0] w' fun e w'' => e = .returned (.string (str (Rt.tx t))) ∧ Below w'.heap.size w' w'') := Lib.hid (fun w' k => rshow_all h4 _ t (Nat.le_refl _) hok 0 w' (H.out.below k) (tat_zero t))
  obtain ⟨N, hN⟩ : ∃ N, N = (enc t).length := ⟨_, rfl⟩
  obtain ⟨R, hR⟩ : ∃ R, R = str (Rt.tx t) := ⟨_, rfl⟩
  rw [← hN] at HC HE ⊢
  rw [← hR] at HE ⊢
  clear hN hR h4
  go_enter Tryd.func11, Tryd.ntmps11
  go_wp2_with (first | (go_at_call 9; refine HC.out.mono ?_; rintro e w9 ⟨rfl, k9⟩; have K9 := Lib.hid k9; have HE9 := Lib.hid (HE.out w9 k9); clear k9) | (go_at_call 21; refine HE9.out.mono ?_; rintro e w8 ⟨rfl, k8⟩; have K8 := Lib.hid k8; clear k8))
  go_ret
  exact ⟨rfl, grows K9.out K8.out⟩
end Go.Proofs.YtabcehifdomolaaDoor.Rq
namespace Go.Proofs.YtabcehifdomolaaDoor.Eka
open Go.RowKit Go.PlainAid Go.Proofs.YtabcehifdomolaaDoor.Vm Go.Proofs.YtabcehifdomolaaDoor.Vo Go.Proofs.YtabcehifdomolaaDoor.Bw Go.Proofs.YtabcehifdomolaaDoor.Na Go.Proofs.YtabcehifdomolaaDoor.Tm Go.Proofs.YtabcehifdomolaaDoor.Ts Go.Proofs.YtabcehifdomolaaDoor.Ta Go.Proofs.YtabcehifdomolaaDoor.Tb Go.Proofs.YtabcehifdomolaaDoor.Tf Go.Proofs.YtabcehifdomolaaDoor.Rm Go.Proofs.YtabcehifdomolaaDoor.Rs Go.Proofs.YtabcehifdomolaaDoor.Rv Go.Proofs.YtabcehifdomolaaDoor.Ra Go.Proofs.YtabcehifdomolaaDoor.Re Go.Proofs.YtabcehifdomolaaDoor.Rf Go.Proofs.YtabcehifdomolaaDoor.Rg Go.Proofs.YtabcehifdomolaaDoor.Rk Go.Proofs.YtabcehifdomolaaDoor.Rn Go.Proofs.YtabcehifdomolaaDoor.Ro Go.Proofs.YtabcehifdomolaaDoor.Eb Go.Proofs.YtabcehifdomolaaDoor.Ec Go.Proofs.YtabcehifdomolaaDoor.Ed Go.Proofs.YtabcehifdomolaaDoor.Eh Go.Proofs.YtabcehifdomolaaDoor.Ei Go.Proofs.YtabcehifdomolaaDoor.Eu Go.Proofs.YtabcehifdomolaaDoor.Epr Go.Proofs.YtabcehifdomolaaDoor.Etb Go.Proofs.YtabcehifdomolaaDoor.Esx

/-- a|b* as a tree. -/
def kT : T := .alt [.set (one 97), .star (.set (one 98))]
theorem enc_kT : enc kT = [⟨4, 2, zero, 0, 0⟩, ⟨1, 0, one 97, 0, 0⟩, ⟨5, 1, zero, 0, 0⟩, ⟨1, 0, one 98, 0, 0⟩] := rfl
theorem pq_1 : parseQ [97, 124, 98, 42] = (0, 0, enc kT) := by rfl
theorem pq_2 : parseQ [120, 40, 97] = (16, 1, []) := by rfl
theorem pq_3 : parseQ [91, 98, 45, 97, 93] = (18, 2, []) := by rfl
theorem pq_4 : parseQ [42] = (15, 0, []) := by rfl
theorem ok_kT : okT kT := by
  unfold kT okT okTs okT okTs okT
  exact ⟨by decide, ⟨one_set _, by decide⟩, by unfold okT; exact ⟨one_set _, by decide⟩, by unfold okTs; trivial⟩
theorem tx_kT : Rt.tx kT = [97, 124, 98, 42] := by rfl
theorem em_kT : emQ kT = true := by rfl
theorem end_kT : endI (enc kT) 1 = 2 := by rfl
end Go.Proofs.YtabcehifdomolaaDoor.Eka
namespace Go.Proofs.YtabcehifdomolaaDoor.Ekn
open Go.RowKit Go.PlainAid Go.Proofs.YtabcehifdomolaaDoor.Vm Go.Proofs.YtabcehifdomolaaDoor.Vo Go.Proofs.YtabcehifdomolaaDoor.Bw Go.Proofs.YtabcehifdomolaaDoor.Na Go.Proofs.YtabcehifdomolaaDoor.Tm Go.Proofs.YtabcehifdomolaaDoor.Ts Go.Proofs.YtabcehifdomolaaDoor.Ta Go.Proofs.YtabcehifdomolaaDoor.Tb Go.Proofs.YtabcehifdomolaaDoor.Tf Go.Proofs.YtabcehifdomolaaDoor.Rm Go.Proofs.YtabcehifdomolaaDoor.Rs Go.Proofs.YtabcehifdomolaaDoor.Rv Go.Proofs.YtabcehifdomolaaDoor.Ra Go.Proofs.YtabcehifdomolaaDoor.Re Go.Proofs.YtabcehifdomolaaDoor.Rf Go.Proofs.YtabcehifdomolaaDoor.Rg Go.Proofs.YtabcehifdomolaaDoor.Rk Go.Proofs.YtabcehifdomolaaDoor.Rn Go.Proofs.YtabcehifdomolaaDoor.Ro Go.Proofs.YtabcehifdomolaaDoor.Eb Go.Proofs.YtabcehifdomolaaDoor.Ec Go.Proofs.YtabcehifdomolaaDoor.Ed Go.Proofs.YtabcehifdomolaaDoor.Eh Go.Proofs.YtabcehifdomolaaDoor.Ei Go.Proofs.YtabcehifdomolaaDoor.Eu Go.Proofs.YtabcehifdomolaaDoor.Epr Go.Proofs.YtabcehifdomolaaDoor.Etb Go.Proofs.YtabcehifdomolaaDoor.Esx Go.Proofs.YtabcehifdomolaaDoor.Eka

theorem p1 (u : World) : Calls Tryd.prog 14 #[.string ⟨#[97, 124, 98, 42]⟩] u fun e w' => ∃ A cap, e = .returned (.tuple #[.slice A 4 cap, .int .i64 0, .int .i64 0]) ∧ (4 ≤ cap ∧ nds w' A (enc kT)) ∧ Below u.heap.size u w' := by
  refine (Parse_any ⟨#[97, 124, 98, 42]⟩ (by decide) u).mono ?_
  rintro e w' ⟨v, c, q, rfl, ⟨e', p, l, hq, rfl, rfl, hs⟩, k⟩
  have hq2 : parseQ [97, 124, 98, 42] = (e', p, l) := hq
  rw [pq_1] at hq2
  simp only [Prod.mk.injEq] at hq2
  obtain ⟨rfl, rfl, rfl⟩ := hq2
  obtain ⟨A, cap, rfl, hc, hn, _⟩ := hs
  exact ⟨A, cap, rfl, ⟨hc, hn⟩, k⟩
theorem p2 (u : World) : Calls Tryd.prog 14 #[.string ⟨#[120, 40, 97]⟩] u fun e w' => ∃ A cap, e = .returned (.tuple #[.slice A 0 cap, .int .i64 16, .int .i64 1]) ∧ Below u.heap.size u w' := by
  refine (Parse_any ⟨#[120, 40, 97]⟩ (by decide) u).mono ?_
  rintro e w' ⟨v, c, q, rfl, ⟨e', p, l, hq, rfl, rfl, hs⟩, k⟩
  have hq2 : parseQ [120, 40, 97] = (e', p, l) := hq
  rw [pq_2] at hq2
  simp only [Prod.mk.injEq] at hq2
  obtain ⟨rfl, rfl, rfl⟩ := hq2
  obtain ⟨A, cap, rfl, _⟩ := hs
  exact ⟨A, cap, rfl, k⟩
theorem p3 (u : World) : Calls Tryd.prog 14 #[.string ⟨#[91, 98, 45, 97, 93]⟩] u fun e w' => ∃ A cap, e = .returned (.tuple #[.slice A 0 cap, .int .i64 18, .int .i64 2]) ∧ Below u.heap.size u w' := by
  refine (Parse_any ⟨#[91, 98, 45, 97, 93]⟩ (by decide) u).mono ?_
  rintro e w' ⟨v, c, q, rfl, ⟨e', p, l, hq, rfl, rfl, hs⟩, k⟩
  have hq2 : parseQ [91, 98, 45, 97, 93] = (e', p, l) := hq
  rw [pq_3] at hq2
  simp only [Prod.mk.injEq] at hq2
  obtain ⟨rfl, rfl, rfl⟩ := hq2
  obtain ⟨A, cap, rfl, _⟩ := hs
  exact ⟨A, cap, rfl, k⟩
theorem p4 (u : World) : Calls Tryd.prog 14 #[.string ⟨#[42]⟩] u fun e w' => ∃ A cap, e = .returned (.tuple #[.slice A 0 cap, .int .i64 15, .int .i64 0]) ∧ Below u.heap.size u w' := by
  refine (Parse_any ⟨#[42]⟩ (by decide) u).mono ?_
  rintro e w' ⟨v, c, q, rfl, ⟨e', p, l, hq, rfl, rfl, hs⟩, k⟩
  have hq2 : parseQ [42] = (e', p, l) := hq
  rw [pq_4] at hq2
  simp only [Prod.mk.injEq] at hq2
  obtain ⟨rfl, rfl, rfl⟩ := hq2
  obtain ⟨A, cap, rfl, _⟩ := hs
  exact ⟨A, cap, rfl, k⟩
theorem nds_two {u : World} {b off : Nat} (h : nds u (some ⟨b, off, none⟩) (enc kT)) : u.cell? ⟨b, off, none⟩ = some (.int .i64 4) ∧ u.cell? ⟨b, off + 16, none⟩ = some (.int .i64 5) := by
  obtain ⟨b0, o0, h0, _, p0⟩ := h 0 _ rfl
  obtain ⟨b2, o2, h2, _, p2⟩ := h 2 _ rfl
  injection h0 with h0
  injection h0 with e1 e2 _
  injection h2 with h2
  injection h2 with e3 e4 _
  subst e1; subst e2; subst e3; subst e4
  exact ⟨p0.c0, p2.c0⟩
theorem chk_kT : checkI (enc kT) = 0 := (checkI_iff (by rw [enc_kT]; simp [zero_set, one_set])).2 ⟨by decide, kT, ok_kT, rfl⟩
set_option maxHeartbeats 4000000 in
set_option maxRecDepth 100000 in
theorem known_any {w : World} (HT : Hid (tab w)) : Calls Tryd.prog 7 #[] w fun e w' => e = .returned (.bool true) ∧ Below w.heap.size w w' := by
  have P1 := Lib.hid p1
  have P2 := Lib.hid p2
  have P3 := Lib.hid p3
  have P4 := Lib.hid p4
  have HSH : Hid (∀ A cap u, 4 ≤ cap → nds u A (enc kT) → tab u → Calls Tryd.prog 10 #[.slice A 4 cap] u fun e w' => e = .returned (.string ⟨#[97, 124, 98, 42]⟩) ∧ Below u.heap.size u w') := Lib.hid (fun A cap u h1 h2 h3 => Show_yes (t := kT) ok_kT h1 chk_kT (by decide) (Lib.hid h2) (Lib.hid h3))
  have HEM : Hid (∀ A cap u, 4 ≤ cap → nds u A (enc kT) → Calls Tryd.prog 16 #[.slice A 4 cap] u fun e w' => e = .returned (.bool true) ∧ Below u.heap.size u w') := Lib.hid (fun A cap u h1 h2 => Empty_yes (t := kT) (by decide) h1 chk_kT (Lib.hid h2))
  have HCK : Hid (∀ A cap u, nds u A (enc kT) → Calls Tryd.prog 8 #[.slice A 4 cap] u fun e w' => e = .returned (.int .i64 0) ∧ Below u.heap.size u w') := Lib.hid (fun A cap u h2 => by have h := Check_any (cap := cap) (l := enc kT) (by decide) (Lib.hid h2); rw [chk_kT] at h; exact h)
  have HEN : Hid (∀ A cap u, nds u A (enc kT) → Calls Tryd.prog 12 #[.slice A 4 cap, .int .i64 1] u fun e w' => e = .returned (.int .i64 2) ∧ u = w') := Lib.hid (fun A cap u h2 => by have h := End_any (cap := cap) (l := enc kT) (by decide) 1 (by omega) (Lib.hid h2); rw [end_kT] at h; exact h)
  go_enter Tryd.func7, Tryd.ntmps7
  go_wp2_with (first | (go_at_call 14; (with_reducible refine (P1.out _).mono ?_); rintro e w1 ⟨A1, c1, rfl, ⟨hc1, hn1⟩, k1⟩; have HC1 := Lib.hid hc1; have HN1 := Lib.hid hn1; have HB1 := Lib.hid k1; obtain ⟨b, off, rfl, _, _⟩ := hn1 0 _ rfl; clear hc1 k1 hn1) | (go_at_call 14; (with_reducible refine (P2.out _).mono ?_); rintro e w2 ⟨A2, c2, rfl, k2⟩; have HB2 := Lib.hid (grows HB1.out k2); have HN2 := Lib.hid (HN1.out.below k2); clear k2) | (go_at_call 14; (with_reducible refine (P3.out _).mono ?_); rintro e w3 ⟨A3, c3, rfl, k3⟩; have HB3 := Lib.hid (grows HB2.out k3); have HN3 := Lib.hid (HN2.out.below k3); clear k3) | (go_at_call 14; (with_reducible refine (P4.out _).mono ?_); rintro e w4 ⟨A4, c4, rfl, k4⟩; have HB4 := Lib.hid (grows HB3.out k4); have HN4 := Lib.hid (HN3.out.below k4); have HD := nds_two HN4.out; obtain ⟨d0, d16⟩ := HD; clear k4) | (go_at_call 10; refine (HSH.out _ _ _ HC1.out HN4.out (HT.out.below HB4.out)).mono ?_; rintro e w5 ⟨rfl, k5⟩; have HB5 := Lib.hid (grows HB4.out k5); have HN5 := Lib.hid (HN4.out.below k5); clear k5) | (go_at_call 16; refine (HEM.out _ _ _ HC1.out HN5.out).mono ?_; rintro e w6 ⟨rfl, k6⟩; have HB6 := Lib.hid (grows HB5.out k6); have HN6 := Lib.hid (HN5.out.below k6); clear k6) | (go_at_call 8; refine (HCK.out _ _ _ HN6.out).mono ?_; rintro e w7 ⟨rfl, k7⟩; have HB7 := Lib.hid (grows HB6.out k7); have HN7 := Lib.hid (HN6.out.below k7); clear k7) | (go_at_call 12; refine (HEN.out _ _ _ HN7.out).mono ?_; rintro e w8 ⟨rfl, rfl⟩))
  go_ret
  exact ⟨rfl, HB7.out⟩
end Go.Proofs.YtabcehifdomolaaDoor.Ekn
namespace Go.Proofs.YtabcehifdomolaaDoor.Rj
open Go.RowKit Go.Proofs.YtabcehifdomolaaDoor.Bw Go.Proofs.YtabcehifdomolaaDoor.Tm Go.Proofs.YtabcehifdomolaaDoor.Ts Go.Proofs.YtabcehifdomolaaDoor.Ta Go.Proofs.YtabcehifdomolaaDoor.Tb Go.Proofs.YtabcehifdomolaaDoor.Rm Go.Proofs.YtabcehifdomolaaDoor.Rs Go.Proofs.YtabcehifdomolaaDoor.Rv Go.Proofs.YtabcehifdomolaaDoor.Ra Go.Proofs.YtabcehifdomolaaDoor.Rg Go.Proofs.YtabcehifdomolaaDoor.Rh Go.Proofs.YtabcehifdomolaaDoor.Ru Go.Proofs.YtabcehifdomolaaDoor.Rn Go.Proofs.YtabcehifdomolaaDoor.Ro Go.Proofs.YtabcehifdomolaaDoor.Eb Go.Proofs.YtabcehifdomolaaDoor.Ec Go.Proofs.YtabcehifdomolaaDoor.Ei Go.Proofs.YtabcehifdomolaaDoor.Eu Go.Proofs.YtabcehifdomolaaDoor.Epr Go.Proofs.YtabcehifdomolaaDoor.Etb Go.Proofs.YtabcehifdomolaaDoor.Esx Go.Proofs.YtabcehifdomolaaDoor.Ekn Go.Proofs.YtabcehifdomolaaDoor.Rc Go.Proofs.YtabcehifdomolaaDoor.Rq

/-- All are bytes. -/
def byts (l : List Nat) : Prop := ∀ x ∈ l, x < 256
theorem byts_nil : byts [] := fun x h => by simp at h
theorem byts_cons {a : Nat} {l : List Nat} (h : a < 256) (k : byts l) : byts (a :: l) := fun x hx => by
  rcases List.mem_cons.1 hx with rfl | hx
  · exact h
  · exact k x hx
theorem byts_app {a b : List Nat} (h : byts a) (k : byts b) : byts (a ++ b) := fun x hx => by
  rcases List.mem_append.1 hx with hx | hx
  · exact h x hx
  · exact k x hx
theorem byts_shN (a : List Nat) : byts (shN a) := fun x hx => by
  unfold shN nb at hx
  obtain ⟨y, _, rfl⟩ := List.mem_map.1 hx
  exact y.toNat_lt
theorem byts_par {b : Bool} {l : List Nat} (h : byts l) : byts (Rt.par b l) := by
  unfold Rt.par
  split
  · exact byts_cons (by decide) (byts_app h (byts_cons (by decide) byts_nil))
  · exact h
theorem byts_decQ {n : Nat} (h : n ≤ 30) : byts (Rt.decQ n) := by
  unfold Rt.decQ
  split
  · exact byts_cons (by omega) byts_nil
  · exact byts_cons (by omega) (byts_cons (by omega) byts_nil)
theorem byts_timQ {lo : Nat} {hi : Int} (h1 : lo ≤ 30) (h2 : hi = -1 ∨ ((lo : Int) ≤ hi ∧ hi ≤ 30)) : byts (Rt.timQ lo hi) := by
  unfold Rt.timQ
  refine byts_cons (by decide) (byts_app (byts_app (byts_decQ h1) ?_) (byts_cons (by decide) byts_nil))
  split
  · exact byts_cons (by decide) byts_nil
  · split
    · exact byts_cons (by decide) (byts_decQ (by omega))
    · exact byts_nil
mutual
/-- A right tree's text is of bytes. -/
theorem byts_tx : ∀ t : T, okT t → byts (Rt.tx t)
  | .set a, _ => by unfold Rt.tx; exact byts_shN a
  | .emp, _ => by unfold Rt.tx; exact byts_cons (by decide) (byts_cons (by decide) byts_nil)
  | .cat l, h => by unfold Rt.tx; unfold okT at h; exact byts_txC l h.2
  | .alt l, h => by unfold Rt.tx; unfold okT at h; exact byts_txA l h.2
  | .star t, h => by unfold Rt.tx; unfold okT at h; exact byts_app (byts_par (byts_tx t h)) (byts_cons (by decide) byts_nil)
  | .plus t, h => by unfold Rt.tx; unfold okT at h; exact byts_app (byts_par (byts_tx t h)) (byts_cons (by decide) byts_nil)
  | .opt t, h => by unfold Rt.tx; unfold okT at h; exact byts_app (byts_par (byts_tx t h)) (byts_cons (by decide) byts_nil)
  | .rep lo hi t, h => by unfold Rt.tx; unfold okT at h; exact byts_app (byts_par (byts_tx t h.2.2)) (byts_timQ h.1 h.2.1)
theorem byts_txC : ∀ l : List T, okTs l → byts (Rt.txC l)
  | [], _ => by unfold Rt.txC; exact byts_nil
  | t :: l, h => by unfold Rt.txC; unfold okTs at h; exact byts_app (byts_par (byts_tx t h.1)) (byts_txC l h.2)
theorem byts_txB : ∀ l : List T, okTs l → byts (Rt.txB l)
  | [], _ => by unfold Rt.txB; exact byts_nil
  | t :: l, h => by unfold Rt.txB; unfold okTs at h; exact byts_cons (by decide) (byts_app (byts_par (byts_tx t h.1)) (byts_txB l h.2))
theorem byts_txA : ∀ l : List T, okTs l → byts (Rt.txA l)
  | [], _ => by unfold Rt.txA; exact byts_nil
  | t :: l, h => by unfold Rt.txA; unfold okTs at h; exact byts_app (byts_par (byts_tx t h.1)) (byts_txB l h.2)
end
theorem tx_pos {t : T} (h : okT t) : 0 < (Rt.tx t).length := by
  obtain ⟨c, m, e, _⟩ := Rt.good_tx t h
  rw [e, List.length_cons]; omega
/-- A list's sets are sets. -/
theorem nds_sets {w : World} {A : Option Addr} {l : List Nd} (h : nds w A l) : ∀ x ∈ l, isSet x.s := fun x hx => by
  obtain ⟨i, hi⟩ := List.mem_iff_getElem?.1 hx
  obtain ⟨b, off, _, _, hp⟩ := h i x hi
  exact hp.s
/-- Nodes that are a right tree, or not. -/
theorem tree_or {w : World} {A : Option Addr} {l : List Nd} (h : nds w A l) : checkI l = 4 ∨ ∃ t, okT t ∧ l = enc t ∧ checkI l = 0 ∧ l.length ≤ 400 := by
  rcases checkI_two l with h0 | h4
  · obtain ⟨hl, t, ht, e⟩ := (checkI_iff (nds_sets h)).1 h0
    exact .inr ⟨t, ht, e, h0, hl⟩
  · exact .inl h4
/-- Both Shows' answer. -/
theorem shows_both {w : World} {A : Option Addr} {cap : Nat} {l : List Nd} (hl : l.length ≤ 1000000) (hcap : l.length ≤ cap) (h : nds w A l) : ∃ S : ByteArray,
    (∀ u, nds u A l → tab u → Calls Tryd.prog 10 #[.slice A l.length cap] u fun e w' => e = .returned (.string S) ∧ Below u.heap.size u w')
      ∧ (∀ u, nds u A l → Calls Tryd.prog 11 #[.slice A l.length cap] u fun e w' => e = .returned (.string S) ∧ Below u.heap.size u w') := by
  rcases tree_or h with h4 | ⟨t, ht, rfl, h0, h400⟩
  · have hn : checkI l ≠ 0 := by rw [h4]; decide
    exact ⟨⟨#[]⟩, fun u hu _ => Show_no hl hn (Lib.hid hu), fun u hu => rShow_no hl hn (Lib.hid hu)⟩
  · exact ⟨str (Rt.tx t), fun u hu ht' => Show_yes ht hcap h0 h400 (Lib.hid hu) (Lib.hid ht'), fun u hu => rShow_yes ht h0 h400 (Lib.hid hu)⟩
/-- Both Emptys' answer. -/
theorem emptys_both {w : World} {A : Option Addr} {cap : Nat} {l : List Nd} (hl : l.length ≤ 1000000) (hcap : l.length ≤ cap) (h : nds w A l) :
    (checkI l = 4 ∧ ∀ u, nds u A l → Calls Tryd.prog 16 #[.slice A l.length cap] u fun e w' => e = .returned (.bool false) ∧ Below u.heap.size u w')
      ∨ (checkI l = 0 ∧ ∃ b, (∀ u, nds u A l → Calls Tryd.prog 16 #[.slice A l.length cap] u fun e w' => e = .returned (.bool b) ∧ Below u.heap.size u w')
        ∧ (∀ u, nds u A l → Calls Tryd.prog 17 #[.slice A l.length cap, .int .i64 0] u fun e w' => e = .returned (.bool b) ∧ Below u.heap.size u w')) := by
  rcases tree_or h with h4 | ⟨t, ht, rfl, h0, h400⟩
  · exact .inl ⟨h4, fun u hu => Empty_no hl (by rw [h4]; decide) (Lib.hid hu)⟩
  · exact .inr ⟨h0, emQ t, fun u hu => Empty_yes hl hcap h0 (Lib.hid hu), fun u hu => rEmpty_all hl _ t (Nat.le_refl _) 0 u hu (tat_zero t)⟩
/-- A shown tree is read again. -/
theorem again {t : T} (ht : okT t) (h4 : (enc t).length ≤ 400) (hl : (str (Rt.tx t)).size ≤ 512) (w : World) :
    Calls Tryd.prog 14 #[.string (str (Rt.tx t))] w fun e w' => ∃ A cap, e = .returned (.tuple #[.slice A (enc t).length cap, .int .i64 0, .int .i64 0]) ∧ ((enc t).length ≤ cap ∧ nds w' A (enc t)) ∧ Below w.heap.size w w' := by
  have hz := str_size (Rt.tx t)
  refine (Parse_any (str (Rt.tx t)) (by omega) w).mono ?_
  rintro e w' ⟨v, c, q, rfl, ⟨e', p, l, hq, rfl, rfl, hs⟩, k⟩
  rw [nb_str (byts_tx t ht), Rt.parse_show ht h4 (by omega)] at hq
  simp only [Prod.mk.injEq] at hq
  obtain ⟨rfl, rfl, rfl⟩ := hq
  obtain ⟨A, cap, rfl, hc, hn, _⟩ := hs
  exact ⟨A, cap, rfl, ⟨hc, hn⟩, k⟩
/-- Whatever a text is read as. -/
theorem reads_any (s : ByteArray) (hs : s.size ≤ 1000000000) (w : World) :
    Calls Tryd.prog 14 #[.string s] w fun e w' => ∃ v c q, e = .returned (.tuple #[v, .int .i64 c, .int .i64 q]) ∧ Below w.heap.size w w' :=
  (Parse_any s (by omega) w).mono fun e w' ⟨v, c, q, he, _, k⟩ => ⟨v, c, q, he, k⟩
/-- A text is read as a right tree, or there is an error. -/
theorem reads_or (s : ByteArray) (hs : s.size ≤ 1000000000) :
    (∃ c q : Nat, c ≠ 0 ∧ q ≤ s.size ∧ ∀ w, Calls Tryd.prog 14 #[.string s] w fun e w' => ∃ A cap, e = .returned (.tuple #[.slice A 0 cap, .int .i64 (c : Int), .int .i64 (q : Int)]) ∧ Below w.heap.size w w')
      ∨ ∃ t, okT t ∧ (enc t).length ≤ 400 ∧ ∀ w, Calls Tryd.prog 14 #[.string s] w fun e w' => ∃ A cap, e = .returned (.tuple #[.slice A (enc t).length cap, .int .i64 0, .int .i64 0]) ∧ ((enc t).length ≤ cap ∧ nds w' A (enc t)) ∧ Below w.heap.size w w' := by
  have hnl := Ep.nb_len s
  rcases parse_all (nb s.data.toList) with ⟨c, q, hp, hc, hq⟩ | ⟨t, ht, h4, hp⟩
  · refine .inl ⟨c, q, hc, by omega, fun w => (Parse_any s (by omega) w).mono ?_⟩
    rintro e w' ⟨v, c', q', rfl, ⟨e', p, l, hpq, rfl, rfl, hsl⟩, k⟩
    rw [hp] at hpq
    simp only [Prod.mk.injEq] at hpq
    obtain ⟨rfl, rfl, rfl⟩ := hpq
    obtain ⟨A, cap, rfl, _⟩ := hsl
    exact ⟨A, cap, rfl, k⟩
  · refine .inr ⟨t, ht, h4, fun w => (Parse_any s (by omega) w).mono ?_⟩
    rintro e w' ⟨v, c', q', rfl, ⟨e', p, l, hpq, rfl, rfl, hsl⟩, k⟩
    rw [hp] at hpq
    simp only [Prod.mk.injEq] at hpq
    obtain ⟨rfl, rfl, rfl⟩ := hpq
    obtain ⟨A, cap, rfl, hcp, hn, _⟩ := hsl
    exact ⟨A, cap, rfl, ⟨hcp, hn⟩, k⟩
end Go.Proofs.YtabcehifdomolaaDoor.Rj
