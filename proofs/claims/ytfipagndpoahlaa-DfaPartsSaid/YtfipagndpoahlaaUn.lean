/-
  Live of layer 18: from which states a rule can be reached.
  Conditions: none but the automaton's cells.
-/
import Derived.Test.YtfipagndpoahlaaUm
namespace Go.Proofs.Ytfipagndpoahlaa.Un
open Go.RowKit Go.PlainAid Go.Proofs.Ytfipagndpoahlaa.Bw Go.Proofs.Ytfipagndpoahlaa.Na Go.Proofs.Ytfipagndpoahlaa.Ko Go.Proofs.Ytfipagndpoahlaa.Ua Go.Proofs.Ytfipagndpoahlaa.Ub Go.Proofs.Ytfipagndpoahlaa.Uc Go.Proofs.Ytfipagndpoahlaa.Ud Go.Proofs.Ytfipagndpoahlaa.Ue Go.Proofs.Ytfipagndpoahlaa.Uf Go.Proofs.Ytfipagndpoahlaa.Ui Go.Proofs.Ytfipagndpoahlaa.Uj Go.Proofs.Ytfipagndpoahlaa.Ul Go.Proofs.Ytfipagndpoahlaa.Um

/-- How many of the first n are true. -/
def cntB (f : Nat → Bool) : Nat → Nat
  | 0 => 0
  | n + 1 => cntB f n + (if f n then 1 else 0)
theorem cntB_le (f : Nat → Bool) : ∀ n, cntB f n ≤ n
  | 0 => Nat.le_refl _
  | n + 1 => by
    have h := cntB_le f n
    have e : cntB f (n + 1) = cntB f n + (if f n then 1 else 0) := rfl
    rw [e]
    split <;> omega
theorem cntB_zero : ∀ n, cntB (fun _ => false) n = 0
  | 0 => rfl
  | n + 1 => by
    have e : cntB (fun _ => false) (n + 1) = cntB (fun _ => false) n + 0 := rfl
    rw [e, cntB_zero n]
theorem cntB_out (f : Nat → Bool) (p : Nat) : ∀ n, n ≤ p → cntB (setT f p) n = cntB f n
  | 0, _ => rfl
  | n + 1, h => by
    have e1 : cntB (setT f p) (n + 1) = cntB (setT f p) n + (if setT f p n then 1 else 0) := rfl
    have e2 : cntB f (n + 1) = cntB f n + (if f n then 1 else 0) := rfl
    have e3 : setT f p n = f n := if_neg (by omega)
    rw [e1, e2, e3, cntB_out f p n (by omega)]
theorem cntB_set {f : Nat → Bool} {p : Nat} (hf : f p = false) : ∀ n, p < n → cntB (setT f p) n = cntB f n + 1
  | n + 1, h => by
    have e1 : cntB (setT f p) (n + 1) = cntB (setT f p) n + (if setT f p n then 1 else 0) := rfl
    have e2 : cntB f (n + 1) = cntB f n + (if f n then 1 else 0) := rfl
    by_cases e : p = n
    · subst e
      have e3 : setT f p p = true := if_pos rfl
      rw [e1, e2, e3, hf, cntB_out f p p (Nat.le_refl _)]
      rfl
    · have e3 : setT f p n = f n := if_neg (fun k => e k.symm)
      rw [e1, e2, e3, cntB_set hf n (by omega)]
      omega
/-- What was found, and what is marked. -/
structure fnd (D : Df) (K : Nat) (f : Nat → Bool) (FL : List Int) : Prop where
  len : FL.length = cntB f K
  mem : ∀ x ∈ FL, ∃ p : Nat, x = (p : Int) ∧ p < K ∧ f p = true
  all : ∀ p, p < K → f p = true → (p : Int) ∈ FL
  snd : ∀ p, p < K → f p = true → lv D p
theorem fnd_zero (D : Df) (K : Nat) : fnd D K (fun _ => false) [] := ⟨(cntB_zero K).symm, fun x h => (by cases h), fun p _ h => (by cases h), fun p _ h => (by cases h)⟩
theorem setT_at (f : Nat → Bool) (p : Nat) : setT f p p = true := if_pos rfl
theorem setT_le {f : Nat → Bool} {p i : Nat} (h : f i = true) : setT f p i = true := by unfold setT; split <;> simp [h]
theorem setT_or {f : Nat → Bool} {p i : Nat} (h : setT f p i = true) : i = p ∨ f i = true := by
  unfold setT at h
  split at h
  · exact .inl ‹_›
  · exact .inr h
theorem fnd.step {D : Df} {K p : Nat} {f : Nat → Bool} {FL : List Int} (h : fnd D K f FL) (hp : p < K) (hf : f p = false) (hl : lv D p) : fnd D K (setT f p) (FL ++ [(p : Int)]) := by
  refine ⟨by rw [List.length_append, h.len, cntB_set hf K hp]; rfl, fun x hx => ?_, fun q hq hf' => ?_, fun q hq hf' => ?_⟩
  · rcases List.mem_append.1 hx with k | k
    · obtain ⟨q, e, hq, hfq⟩ := h.mem x k
      exact ⟨q, e, hq, setT_le hfq⟩
    · obtain rfl := List.mem_singleton.1 k
      exact ⟨p, rfl, hp, setT_at f p⟩
  · rcases setT_or hf' with rfl | k
    · exact List.mem_append.2 (.inr (List.mem_singleton.2 rfl))
    · exact List.mem_append.2 (.inl (h.all q hq k))
  · rcases setT_or hf' with rfl | k
    · exact hl
    · exact h.snd q hq k
theorem fnd.le {D : Df} {K : Nat} {f : Nat → Bool} {FL : List Int} (h : fnd D K f FL) : FL.length ≤ K := by rw [h.len]; exact cntB_le f K
/-- A row of truths that is read. -/
def brow (w : World) (A : Option Addr) (n : Nat) (f : Nat → Bool) : Prop := ∀ i, i < n → ∃ b off : Nat, A = some ⟨b, off, none⟩ ∧ b < w.heap.size ∧ w.cell? ⟨b, off + i, none⟩ = some (.bool (f i))
theorem brow.below {w w' : World} {A : Option Addr} {n : Nat} {f : Nat → Bool} (h : brow w A n f) (k : Below w.heap.size w w') : brow w' A n f := fun i hi => by
  obtain ⟨b, off, e, hb, hc⟩ := h i hi
  exact ⟨b, off, e, Nat.lt_of_lt_of_le hb k.size, (k.cell (p := ⟨b, off + i, none⟩) hb).trans hc⟩
theorem brow_of {w : World} {L K : Nat} {f : Nat → Bool} (h : Blk w L 4 (bol K f)) : brow w (some ⟨L, 0, none⟩) K f := fun i hi => ⟨L, 0, rfl, h.lt, by rw [Nat.zero_add, h.cell, bol_get _ hi]⟩
/-- What Live answers. -/
def livA (D : Df) (w : World) (e : Ending) (w' : World) : Prop := ∃ A n c f, e = .returned (.slice A n c) ∧ brow w' A n f ∧ n ≤ c ∧ (okD D → n = D.nx.length ∧ ∀ p, p < n → (f p = true ↔ lv D p)) ∧ (¬ okD D → n = 0) ∧ Below w.heap.size w w'
/-- The first so many of what was found have been gone through. -/
def clsd (D : Df) (K : Nat) (f : Nat → Bool) (FL : List Int) (i : Nat) : Prop := ∀ a (q p : Nat), a < i → FL[a]? = some (q : Int) → srcQ D K 0 q (p : Int) → f p = true
theorem clsd.step {D : Df} {K i p : Nat} {f : Nat → Bool} {FL : List Int} {x : Int} (h : clsd D K f FL i) (hi : i ≤ FL.length) : clsd D K (setT f p) (FL ++ [x]) i := fun a q r ha hq hs => by
  rw [List.getElem?_append_left (by omega)] at hq
  exact setT_le (h a q r ha hq hs)
/-- What stays while states are marked. -/
structure fr (w5 : World) (e1 : Nat) (u : World) (v : Value) : Prop where
  same : ∀ k, e1 ≤ k → k < w5.heap.size → u.heap[k]? = w5.heap[k]?
  own : ∀ q, v.ownBlock = some q → q < e1 ∨ w5.heap.size ≤ q
  sz : w5.heap.size ≤ u.heap.size
theorem fr.step {w5 u u' : World} {e1 L g4 : Nat} {v v' : Value} (h : fr w5 e1 u v) (hL : L < e1) (h4 : g4 < e1) (o : Only (mkS L g4 v) u u') (hv : ∀ q, v'.ownBlock = some q → v.ownBlock = some q ∨ u.heap.size ≤ q) : fr w5 e1 u' v' := by
  refine ⟨fun k h1 h2 => (o.block k (Nat.lt_of_lt_of_le h2 h.sz) (fun hk => ?_)).trans (h.same k h1 h2), fun q hq => ?_, Nat.le_trans h.sz o.size⟩
  · rcases hk with rfl | rfl | hk
    · omega
    · omega
    · rcases h.own k hk with z | z <;> omega
  · rcases hv q hq with k | k
    · exact h.own q k
    · exact .inr (Nat.le_trans h.sz k)
theorem _root_.Go.Proofs.Ytfipagndpoahlaa.Um.srcs.same {w w' : World} {base g K : Nat} {vf : Nat → Value} {E : Nat → List Int} (h : srcs w base g K vf E) (k : ∀ i, base ≤ i → i < w.heap.size → w'.heap[i]? = w.heap[i]?) : srcs w' base g K vf E := by
  refine ⟨(k g h.l h.b.lt).trans h.b, h.l, fun i hi => ?_, h.dis⟩
  have r := h.rows i hi
  refine ⟨r.1, ?_⟩
  rcases r.2 with h0 | ⟨q, cap, cur, e, hb, hh, hr⟩
  · exact .inl h0
  · refine .inr ⟨q, cap, cur, e, hb, ?_, hr⟩
    have hq : (vf i).ownBlock = some q := by rw [e]; rfl
    exact (k q hb (r.lo q hq).2).trans hh
theorem _root_.Go.Proofs.Ytfipagndpoahlaa.Ul.mk.below {u u' : World} {base g3 g4 L K : Nat} {f : Nat → Bool} {v : Value} {FL : List Int} (h : mk u base g3 g4 L K f v FL) (k : Below u.heap.size u u') : mk u' base g3 g4 L K f v FL := ⟨h.b3.below k, h.bl.below k, h.b4.below k, h.r.below k, h.l3, h.ll, h.l4⟩
theorem _root_.Go.Proofs.Ytfipagndpoahlaa.Ul.mk.frame {u u' w1 : World} {base g3 g4 L K : Nat} {f : Nat → Bool} {v : Value} {FL : List Int} (h : mk u base g3 g4 L K f v FL) (k : Below base w1 u) (o : Only (mkS L g4 v) u u') : Below base w1 u' :=
  o.below k (Nat.le_trans h.l4 (Nat.le_of_lt h.b4.lt)) (fun i hi => by
    rcases hi with rfl | rfl | hi
    · exact h.ll
    · exact h.l4
    · exact (h.r.lo i hi).1)
theorem srcQ_lt {D : Df} {K t : Nat} {x : Int} (h : srcQ D K 0 t x) : ∃ p : Nat, x = (p : Int) ∧ ∃ l, D.nx[p]? = some l ∧ (t : Int) ∈ l := by
  obtain ⟨p, e, l, hl, b, hb, _⟩ := h
  exact ⟨p, e, l, hl, List.mem_of_getElem? hb⟩
theorem srcQ_of {D : Df} {K p t : Nat} {l : List Int} (hl : D.nx[p]? = some l) (ht : (t : Int) ∈ l) (hK : D.nx.length ≤ K) : srcQ D K 0 t (p : Int) := by
  obtain ⟨b, hb⟩ := List.mem_iff_getElem?.1 ht
  exact ⟨p, rfl, l, hl, b, hb, .inl (by have := (List.getElem?_eq_some_iff.1 hl).1; omega)⟩
/-- All that was found has been gone through: the marks are just the states that live. -/
theorem live_all {D : Df} {K i : Nat} {f : Nat → Bool} {FL : List Int} (ho : okD D) (hK : K = D.nx.length) (hf : fnd D K f FL) (hr : ∀ p, p < K → at' D.ru p ≠ -1 → f p = true) (hc : clsd D K f FL i) (hi : FL.length ≤ i) : ∀ p, p < K → (f p = true ↔ lv D p) := by
  have key := lv_iff (D := D) (T := fun p => p < K ∧ f p = true) (fun p h => hf.snd p h.1 h.2) (fun p x hx h0 => by
    have hl := (List.getElem?_eq_some_iff.1 hx).1
    have hp : p < K := by rw [hK, ← ho.r]; exact hl
    refine ⟨hp, hr p hp (fun e => ?_)⟩
    rw [at_get hl] at hx
    have := Option.some.inj hx
    omega) (fun p q l hl hq hT => by
    have hp : p < K := by rw [hK]; exact (List.getElem?_eq_some_iff.1 hl).1
    obtain ⟨a, ha⟩ := List.mem_iff_getElem?.1 (hf.all q hT.1 hT.2)
    exact ⟨hp, hc a q p (Nat.lt_of_lt_of_le (List.getElem?_eq_some_iff.1 ha).1 hi) ha (srcQ_of hl hq (by omega))⟩)
  intro p hp
  exact ⟨fun h => (key p).1 ⟨hp, h⟩, fun h => ((key p).2 h).2⟩
set_option maxHeartbeats 4000000 in
set_option maxRecDepth 100000 in
theorem Live_any {w : World} {V : Array Value} {D : Df} (H : Hid (dfa w V D)) :
    Calls Try.prog 18 #[.agg V] w fun e w' => livA D w e w' := by
  have HW := H
  obtain ⟨A1, c1, A2, c2, H⟩ := H.out
  have H := Lib.hid H
  obtain ⟨w1, hw1⟩ : ∃ w1, w1 = w.alloc (.cells V 26) := ⟨_, rfl⟩
  have B1 : Hid (Below w.heap.size w w1) := Lib.hid (by rw [hw1]; exact below_alloc _ _)
  have K1 : Hid (Blk w1 w.heap.size 26 V) := Lib.hid (by rw [hw1]; exact Blk.fresh _ _ _)
  obtain ⟨N, hsz, hld⟩ := load_dfa (g := w.heap.size) H.out.size
  have HR := Lib.hid (Right_any (Lib.hid (HW.out.below B1.out)))
  have hb1 := K1.out
  by_cases ho : okD D
  · have HO := Lib.hid ho
    obtain ⟨K, hK⟩ : ∃ K, K = D.nx.length := ⟨_, rfl⟩
    have hK9 : K ≤ 1000 := by rw [hK]; exact ho.k2
    have hM : K = D.ru.length := by rw [hK, ho.r]
    have HD1 : Hid (∀ u, Below w1.heap.size w1 u → u.cell? ⟨w.heap.size, 256, none⟩ = some (.slice A1 K c1) ∧ u.cell? ⟨w.heap.size, 257, none⟩ = some (.slice A2 K c2)) := Lib.hid (fun u k => ⟨((K1.out.below k).cell 256).trans (by rw [hK]; exact H.out.vn), ((K1.out.below k).cell 257).trans (by rw [hM]; exact H.out.vr)⟩)
    have hmk := made_bol K (by omega)
    have HK := Lib.hid hK
    have HM := Lib.hid hM
    clear ho hK hM
    go_enter Try.func18, Try.ntmps18
    go_upto_region 1 with fail
    rw [← hw1]
    clear hw1
    go_upto_region 3 with (go_at_call 9; refine HR.out.mono ?_; rintro e w2 h2; obtain ⟨rfl, k2⟩ := h2.yes HO.out; have K2 := Lib.hid k2; obtain ⟨d1, d2⟩ := HD1.out _ k2; clear h2 k2 hb1)
    go_upto_region 6 with fail
    obtain ⟨L, hL⟩ : ∃ L, L = w2.heap.size := ⟨_, rfl⟩
    have s3 := start3 w2 4 33 24 (bol K (fun _ => false)) #[.slice (some ⟨w2.heap.size, 0, none⟩) K K] #[.slice none 0 0]
    obtain ⟨w6, hw6⟩ : ∃ w6, w6 = ((w2.alloc (.cells (bol K (fun _ => false)) 4)).alloc (.cells #[.slice (some ⟨w2.heap.size, 0, none⟩) K K] 33)).alloc (.cells #[.slice none 0 0] 24) := ⟨_, rfl⟩
    rw [← hw6] at s3 ⊢
    rw [← hL] at s3 ⊢
    have HM6 : Hid (mk w6 w1.heap.size (L + 1) (L + 1 + 1) L K (fun _ => false) (.slice none 0 0) []) := Lib.hid ⟨s3.2.1, s3.1, s3.2.2.1, ints_nil _ _ _, by have := K2.out.size; omega, by have := K2.out.size; omega, by have := K2.out.size; omega⟩
    have HB6 : Hid (Below w1.heap.size w1 w6) := Lib.hid (grows K2.out (by have := s3.2.2.2; rw [hL] at this; exact this))
    clear hmk hw6 s3 d1 d2 hL
    obtain ⟨d1, d2⟩ := HD1.out w6 HB6.out
    go_wp2
    clear d1 d2
    go_loopw [22, 6] (fun s22 _ wr => ∃ (i : Nat) (f : Nat → Bool) (v : Value) (FL : List Int), s22 = .int .i64 (i : Int) ∧ i ≤ K ∧ Hid (mk wr w1.heap.size (L + 1) (L + 1 + 1) L K f v FL) ∧ Hid (fnd D K f FL) ∧ Hid (∀ p, p < i → at' D.ru p ≠ -1 → f p = true) ∧ Hid (Below w1.heap.size w1 wr)) (fun s22 _ _ => K - (intOf s22).toNat)
    case atStart => exact ⟨0, _, _, _, rfl, by omega, HM6, Lib.hid (fnd_zero D K), Lib.hid (fun p hp => absurd hp (by omega)), HB6⟩
    case round =>
      clear HM6 HB6
      obtain ⟨i, f, v, FL, rfl, hi, HMM, HF, HRU, HB⟩ := hrel
      obtain ⟨d1, d2⟩ := HD1.out wr HB.out
      by_cases hin : i < K
      · have hin' : (i : Int) < (K : Int) := by omega
        have hi0 : (0 : Int) ≤ (i : Int) := by omega
        have HIN := Lib.hid hin
        obtain ⟨b2, o2, rfl, hb2, hce⟩ := (H.out.r.below (grows B1.out HB.out)) i (by rw [← HM.out]; exact hin)
        obtain ⟨r, hre⟩ : ∃ r, r = at' D.ru i := ⟨_, rfl⟩
        have hru : D.ru[i]? = some r := by rw [hre]; exact at_get (by rw [← HM.out]; exact hin)
        have hrb := HO.out.ru r (List.mem_of_getElem? hru)
        rw [← hre] at hce
        have HRE := Lib.hid hre
        have HRL := Lib.hid hru
        have hfl := HF.out.le
        clear hre hru hb2
        by_cases hr1 : r = -1
        · have HRN : Hid (∀ p, p < i + 1 → at' D.ru p ≠ -1 → f p = true) := Lib.hid (fun p hp hne => by
            rcases (show p < i ∨ p = i by omega) with h | rfl
            · exact HRU.out p h hne
            · exact absurd (HRE.out.symm.trans hr1) hne)
          subst hr1
          clear hin hrb hfl
          go_wp2
          have hin := HIN.out
          go_roundw
          case rel => exact ⟨i + 1, f, v, FL, by go_num, by omega, HMM, HF, HRN, HB⟩
          case measure => simp [intOf]; omega
        · have t1 : (r == -1) = false := by simpa using hr1
          have t2 : (r != -1) = true := by simpa using hr1
          have HLV : Hid (lv D i) := Lib.hid (.here HRL.out (by omega))
          by_cases hf : f i = true
          · have HMK := Lib.hid (mark_yes hin hf HMM)
            have HRN : Hid (∀ p, p < i + 1 → at' D.ru p ≠ -1 → f p = true) := Lib.hid (fun p hp hne => by
              rcases (show p < i ∨ p = i by omega) with h | rfl
              · exact HRU.out p h hne
              · exact hf)
            clear hin hrb hfl hr1 hf
            go_wp2_with (go_at_call 28; refine HMK.out.mono ?_; rintro e w8 ⟨rfl, rfl⟩)
            have hin := HIN.out
            go_roundw
            case rel => exact ⟨i + 1, f, v, FL, by go_num, by omega, HMM, HF, HRN, HB⟩
            case measure => simp [intOf]; omega
          · have hf' : f i = false := by simpa using hf
            have HMK := Lib.hid (mark_no hin hf' (by omega) HMM)
            have HFN := Lib.hid (HF.out.step hin hf' HLV.out)
            have HRN : Hid (∀ p, p < i + 1 → at' D.ru p ≠ -1 → setT f i p = true) := Lib.hid (fun p hp hne => by
              rcases (show p < i ∨ p = i by omega) with h | rfl
              · exact setT_le (HRU.out p h hne)
              · exact setT_at f p)
            clear hin hrb hfl hr1 hf hf'
            go_wp2_with (go_at_call 28; refine HMK.out.mono ?_; rintro e w8 ⟨rfl, v8, m8, o8, q8⟩; have M8 := Lib.hid m8; have O8 := Lib.hid o8; have Q8 := Lib.hid q8; obtain ⟨A8, c8, hv8, _⟩ := m8.r.le; clear m8 o8 q8)
            clear hv8
            have hin := HIN.out
            go_roundw
            case rel => exact ⟨i + 1, _, _, _, by go_num, by omega, M8, HFN, HRN, Lib.hid (HMM.out.frame HB.out O8.out)⟩
            case measure => simp [intOf]; omega
      · have hin' : ¬ (i : Int) < (K : Int) := by omega
        have HRA : Hid (∀ p, p < K → at' D.ru p ≠ -1 → f p = true) := Lib.hid (fun p hp => HRU.out p (by omega))
        have HSR := Lib.hid (sources_any HO.out HK.out (Lib.hid (HW.out.below (grows B1.out HB.out))))
        obtain ⟨e1, he1⟩ : ∃ e1, e1 = wr.heap.size := ⟨_, rfl⟩
        have HE1 := Lib.hid he1
        have hb := K1.out.below HB.out
        clear hin hi he1
        go_wp2_with (go_at_call 29; refine HSR.out.mono ?_; rintro e w7 ⟨g, vf, E, rfl, s7, m7, k7⟩; have S7 := Lib.hid s7; have E7 := Lib.hid m7; have K7 := Lib.hid k7; clear s7 m7 k7 hb)
        have HLE : Hid (L < e1 ∧ L + 1 + 1 < e1) := Lib.hid (by rw [HE1.out]; exact ⟨HMM.out.bl.lt, HMM.out.b4.lt⟩)
        clear d1 d2 hsz hld
        go_loopw [8, 10, 51] (fun s8 _ _ wz => ∃ (i : Nat) (f : Nat → Bool) (v : Value) (FL : List Int), s8 = .int .i64 (i : Int) ∧ Hid (i ≤ FL.length) ∧ Hid (mk wz w1.heap.size (L + 1) (L + 1 + 1) L K f v FL) ∧ Hid (fnd D K f FL) ∧ Hid (∀ p, p < K → at' D.ru p ≠ -1 → f p = true) ∧ Hid (clsd D K f FL i) ∧ Hid (fr w7 e1 wz v) ∧ Hid (Below w1.heap.size w1 wz)) (fun s8 _ _ _ => K - (intOf s8).toNat)
        case atStart => exact ⟨0, f, v, FL, rfl, Lib.hid (by omega), Lib.hid (HMM.out.below K7.out), HF, HRA, Lib.hid (fun a q p ha => absurd ha (by omega)), Lib.hid ⟨fun k _ _ => rfl, fun q hq => .inl (by rw [HE1.out]; exact (HMM.out.r.lo q hq).2), Nat.le_refl _⟩, Lib.hid (grows HB.out K7.out)⟩
        case round =>
          clear HMM HF HRU HRA HB
          obtain ⟨i, f, v, FL, rfl, hi, HMM, HF, HRA, HCL, HFR, HB⟩ := hrel
          obtain ⟨A9, c9, hv9, _⟩ := HMM.out.r.le
          obtain ⟨n, hn⟩ : ∃ n, n = FL.length := ⟨_, rfl⟩
          rw [← hn] at hv9
          subst hv9
          have HN := Lib.hid hn
          have hfl := HF.out.le
          rw [← hn] at hfl
          have c4 : wr.cell? ⟨L + 1 + 1, 0, none⟩ = some (.slice A9 n c9) := HMM.out.b4.cell 0
          clear hn
          by_cases hin : i < n
          · have hin' : (i : Int) < (n : Int) := by omega
            have hi0 : (0 : Int) ≤ (i : Int) := by omega
            have HIN := Lib.hid hin
            have HFLK := Lib.hid hfl
            obtain ⟨y, hy⟩ : ∃ y, FL[i]? = some y := ⟨_, List.getElem?_eq_getElem (by rw [← HN.out]; exact hin)⟩
            obtain ⟨q, rfl, hqK, hfq⟩ := HF.out.mem y (List.mem_of_getElem? hy)
            have HFI := Lib.hid hy
            have HLQ := Lib.hid (HF.out.snd q hqK hfq)
            obtain ⟨b3, o3, rfl, _, hce⟩ := HMM.out.r.row i (by rw [← HN.out]; exact hin)
            have hyi : at' FL i = (q : Int) := by rw [at_get (by rw [← HN.out]; exact hin)] at hy; exact Option.some.inj hy
            rw [hyi] at hce
            have HS := Lib.hid (S7.out.same (by rw [← HE1.out]; exact HFR.out.same))
            obtain ⟨AS, cS, hvs, _⟩ := (HS.out.rows q hqK).le
            obtain ⟨nS, hnS⟩ : ∃ nS, nS = (E q).length := ⟨_, rfl⟩
            rw [← hnS] at hvs
            have HNS := Lib.hid hnS
            have HVS := Lib.hid hvs
            have hnb : nS ≤ K * 256 := by rw [hnS]; exact (E7.out q hqK).1
            have hnb2 : K * 256 ≤ 256000 := by omega
            have hnb3 : nS ≤ 256000 := by omega
            have hct : wr.cell? ⟨g, q, none⟩ = some (.slice AS nS cS) := (HS.out.b.cell q).trans (by rw [celN_get _ hqK, hvs])
            have hq' : (q : Int) < (K : Int) := by omega
            have hq0 : (0 : Int) ≤ (q : Int) := by omega
            have HQK := Lib.hid hqK
            clear hy hyi hvs hnS hfq hnb hnb2 hin hqK
            go_wp2
            clear c4 hce hct
            go_loopw [51, 10] (fun s51 _ wz => ∃ (j : Nat) (f : Nat → Bool) (v : Value) (FL : List Int), s51 = .int .i64 (j : Int) ∧ j ≤ nS ∧ Hid (mk wz w1.heap.size (L + 1) (L + 1 + 1) L K f v FL) ∧ Hid (fnd D K f FL) ∧ Hid (∀ p, p < K → at' D.ru p ≠ -1 → f p = true) ∧ Hid (clsd D K f FL i) ∧ Hid (FL[i]? = some (q : Int)) ∧ Hid (∀ b (p : Nat), b < j → (E q)[b]? = some (p : Int) → f p = true) ∧ Hid (fr w7 e1 wz v) ∧ Hid (Below w1.heap.size w1 wz)) (fun s51 _ _ => nS - (intOf s51).toNat)
            case atStart => exact ⟨0, f, _, FL, rfl, by omega, HMM, HF, HRA, HCL, HFI, Lib.hid (fun b p hb => absurd hb (by omega)), HFR, HB⟩
            case round =>
              clear HMM HF HRA HCL HFI HFR HS HN
              obtain ⟨j, f, v, FL, rfl, hj, HMM, HF, HRA, HCL, HFI, HPT, HFR, HB⟩ := hrel
              by_cases hjn : j < nS
              · have hjn' : (j : Int) < (nS : Int) := by omega
                have hj0 : (0 : Int) ≤ (j : Int) := by omega
                have HJN := Lib.hid hjn
                have HS := S7.out.same (by rw [← HE1.out]; exact HFR.out.same)
                have hrw := HS.rows q HQK.out
                rw [HVS.out] at hrw
                obtain ⟨b4, o4, rfl, _, hce⟩ := hrw.row j (by rw [← HNS.out]; exact hjn)
                obtain ⟨x, hx⟩ : ∃ x, (E q)[j]? = some x := ⟨_, List.getElem?_eq_getElem (by rw [← HNS.out]; exact hjn)⟩
                have hxa : at' (E q) j = x := by rw [at_get (by rw [← HNS.out]; exact hjn)] at hx; exact Option.some.inj hx
                rw [hxa] at hce
                obtain ⟨p, rfl, l, hl, hql⟩ := srcQ_lt (((E7.out q HQK.out).2 x).1 (List.mem_of_getElem? hx))
                have hpK : p < K := by rw [HK.out]; exact (List.getElem?_eq_some_iff.1 hl).1
                have HLP : Hid (lv D p) := Lib.hid (.next hl hql HLQ.out)
                have HX := Lib.hid hx
                have hfl := HF.out.le
                clear HS hrw hx hxa hl hql
                by_cases hf : f p = true
                · have HMK := Lib.hid (mark_yes hpK hf HMM)
                  have HPN : Hid (∀ b (r : Nat), b < j + 1 → (E q)[b]? = some (r : Int) → f r = true) := Lib.hid (fun b r hb hr => by
                    rcases (show b < j ∨ b = j by omega) with h | rfl
                    · exact HPT.out b r h hr
                    · rw [HX.out] at hr
                      have := Option.some.inj hr
                      obtain rfl : p = r := by omega
                      exact hf)
                  clear hjn hfl hf hpK
                  go_wp2_with (go_at_call 28; refine HMK.out.mono ?_; rintro e w8 ⟨rfl, rfl⟩)
                  have hjn := HJN.out
                  go_roundw
                  case rel => exact ⟨j + 1, f, v, FL, by go_num, by omega, HMM, HF, HRA, HCL, HFI, HPN, HFR, HB⟩
                  case measure => simp [intOf]; omega
                · have hf' : f p = false := by simpa using hf
                  have HMK := Lib.hid (mark_no hpK hf' (by omega) HMM)
                  have HFN := Lib.hid (HF.out.step hpK hf' HLP.out)
                  have HPN : Hid (∀ b (r : Nat), b < j + 1 → (E q)[b]? = some (r : Int) → setT f p r = true) := Lib.hid (fun b r hb hr => by
                    rcases (show b < j ∨ b = j by omega) with h | rfl
                    · exact setT_le (HPT.out b r h hr)
                    · rw [HX.out] at hr
                      have := Option.some.inj hr
                      obtain rfl : p = r := by omega
                      exact setT_at f p)
                  have HRN : Hid (∀ r, r < K → at' D.ru r ≠ -1 → setT f p r = true) := Lib.hid (fun r h1 h2 => setT_le (HRA.out r h1 h2))
                  have HIL : Hid (i < FL.length) := Lib.hid (List.getElem?_eq_some_iff.1 HFI.out).1
                  clear hjn hfl hf hf' hpK
                  go_wp2_with (go_at_call 28; refine HMK.out.mono ?_; rintro e w8 ⟨rfl, v8, m8, o8, q8⟩; have M8 := Lib.hid m8; have O8 := Lib.hid o8; have Q8 := Lib.hid q8; obtain ⟨A8, c8, hv8, _⟩ := m8.r.le; clear m8 o8 q8)
                  clear hv8
                  have hjn := HJN.out
                  go_roundw
                  case rel => exact ⟨j + 1, _, _, _, by go_num, by omega, M8, HFN, HRN, Lib.hid (HCL.out.step (Nat.le_of_lt HIL.out)), Lib.hid (by rw [List.getElem?_append_left HIL.out]; exact HFI.out), HPN, Lib.hid (HFR.out.step HLE.out.1 HLE.out.2 O8.out Q8.out), Lib.hid (HMM.out.frame HB.out O8.out)⟩
                  case measure => simp [intOf]; omega
              · have hjn' : ¬ (j : Int) < (nS : Int) := by omega
                have HCN : Hid (clsd D K f FL (i + 1)) := Lib.hid (fun a r p ha hr hs => by
                  rcases (show a < i ∨ a = i by omega) with h | rfl
                  · exact HCL.out a r p h hr hs
                  · rw [HFI.out] at hr
                    have := Option.some.inj hr
                    obtain rfl : q = r := by omega
                    obtain ⟨b, hb⟩ := List.mem_iff_getElem?.1 (((E7.out q HQK.out).2 _).2 hs)
                    exact HPT.out b p (by have := (List.getElem?_eq_some_iff.1 hb).1; have := HNS.out; omega) hb)
                have HIL : Hid (i + 1 ≤ FL.length) := Lib.hid (List.getElem?_eq_some_iff.1 HFI.out).1
                have HIK : Hid (i < K) := Lib.hid (by have := HIN.out; have := HFLK.out; omega)
                clear hjn hj
                go_wp2
                have hik := HIK.out
                go_roundw
                case rel => exact ⟨i + 1, f, v, FL, by go_num, HIL, HMM, HF, HRA, HCN, HFR, HB⟩
                case measure => simp [intOf]; omega
          · have hin' : ¬ (i : Int) < (n : Int) := by omega
            have HLV := Lib.hid (live_all HO.out HK.out HF.out HRA.out HCL.out (by rw [← HN.out]; omega))
            have c3 : wr.cell? ⟨L + 1, 0, none⟩ = some (.slice (some ⟨L, 0, none⟩) K K) := HMM.out.b3.cell 0
            clear hin hi hfl
            go_wp2
            go_ret
            exact ⟨_, K, K, f, rfl, brow_of HMM.out.bl, Nat.le_refl _, fun _ => ⟨HK.out, HLV.out⟩, fun k => absurd HO.out k, grows B1.out HB.out⟩
  · have HO := Lib.hid ho
    clear ho
    go_enter Try.func18, Try.ntmps18
    go_upto_region 1 with fail
    rw [← hw1]
    clear hw1
    go_wp2_with (go_at_call 9; refine HR.out.mono ?_; rintro e w2 h2; obtain ⟨rfl, k2⟩ := h2.no HO.out; have K2 := Lib.hid k2; clear h2 k2 hb1)
    go_ret
    exact ⟨none, 0, 0, fun _ => false, rfl, fun i hi => absurd hi (by omega), Nat.le_refl _, fun k => absurd k HO.out, fun _ => rfl, grows B1.out K2.out⟩
end Go.Proofs.Ytfipagndpoahlaa.Un
