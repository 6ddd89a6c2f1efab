/-
  The reference's Live and Bools (layer 18).
  Conditions: none but the automaton's cells.
-/
import Derived.Test.YtfipagndpoahlaaUn
namespace Go.Proofs.Ytfipagndpoahlaa.Uo
open Go.RowKit Go.PlainAid Go.Proofs.Ytfipagndpoahlaa.Bw Go.Proofs.Ytfipagndpoahlaa.Na Go.Proofs.Ytfipagndpoahlaa.Ko Go.Proofs.Ytfipagndpoahlaa.Ua Go.Proofs.Ytfipagndpoahlaa.Ub Go.Proofs.Ytfipagndpoahlaa.Uc Go.Proofs.Ytfipagndpoahlaa.Ud Go.Proofs.Ytfipagndpoahlaa.Ue Go.Proofs.Ytfipagndpoahlaa.Uf Go.Proofs.Ytfipagndpoahlaa.Ug Go.Proofs.Ytfipagndpoahlaa.Ui Go.Proofs.Ytfipagndpoahlaa.Uj Go.Proofs.Ytfipagndpoahlaa.Ul Go.Proofs.Ytfipagndpoahlaa.Um Go.Proofs.Ytfipagndpoahlaa.Un

/-- States with a rule among the first so many. -/
def ruT (D : Df) (i p : Nat) : Bool := decide (p < i ∧ 0 ≤ at' D.ru p)
theorem bol_ru {D : Df} {K i : Nat} {b : Bool} (hb : b = decide (0 ≤ at' D.ru i)) : (bol K (ruT D i)).setIfInBounds i (.bool b) = bol K (ruT D (i + 1)) := by
  unfold bol
  rw [celN_set]
  refine celN_congr (fun p _ => ?_)
  by_cases e : p = i
  · subst e
    rw [if_pos rfl, hb]
    unfold ruT
    congr 1
    rw [decide_eq_decide]
    exact ⟨fun h => ⟨by omega, h⟩, fun h => h.2⟩
  · rw [if_neg e]
    unfold ruT
    congr 1
    rw [decide_eq_decide]
    exact ⟨fun h => ⟨by omega, h.2⟩, fun h => ⟨by omega, h.2⟩⟩
/-- A state is marked where one that it leads to is. -/
def clo1 (D : Df) (f : Nat → Bool) (p : Nat) : Prop := ∀ l (q : Nat), D.nx[p]? = some l → (q : Int) ∈ l → f q = true → f p = true
/-- How far a round has come. -/
structure rnd (D : Df) (K : Nat) (f0 f : Nat → Bool) (a : Bool) (P : Prop) : Prop where
  snd : ∀ p, p < K → f p = true → lv D p
  ru : ∀ p, p < K → 0 ≤ at' D.ru p → f p = true
  le : cntB f0 K ≤ cntB f K
  lt : a = true → cntB f0 K < cntB f K
  cl : a = false → P
theorem rnd.step {D : Df} {K p : Nat} {f0 f : Nat → Bool} {a : Bool} {P Q : Prop} (h : rnd D K f0 f a P) (hp : p < K) (hf : f p = false) (hl : lv D p) : rnd D K f0 (setT f p) true Q := by
  have hc := cntB_set hf K hp
  refine ⟨fun q hq hf' => ?_, fun q hq h0 => setT_le (h.ru q hq h0), by have := h.le; omega, fun _ => by have := h.le; omega, fun k => by cases k⟩
  rcases setT_or hf' with rfl | k
  · exact hl
  · exact h.snd q hq k
theorem rnd.to {D : Df} {K : Nat} {f0 f : Nat → Bool} {a : Bool} {P Q : Prop} (h : rnd D K f0 f a P) (k : a = false → P → Q) : rnd D K f0 f a Q := ⟨h.snd, h.ru, h.le, h.lt, fun e => k e (h.cl e)⟩
theorem rnd.done {D : Df} {K : Nat} {f0 f : Nat → Bool} {P : Prop} (ho : okD D) (hK : K = D.nx.length) (h : rnd D K f0 f false P) (hP : P → ∀ p, p < K → clo1 D f p) : ∀ p, p < K → (f p = true ↔ lv D p) := by
  have key := lv_iff (D := D) (T := fun p => p < K ∧ f p = true) (fun p k => h.snd p k.1 k.2) (fun p x hx h0 => by
    have hl := (List.getElem?_eq_some_iff.1 hx).1
    have hp : p < K := by rw [hK, ← ho.r]; exact hl
    refine ⟨hp, h.ru p hp ?_⟩
    rw [at_get hl] at hx
    have := Option.some.inj hx
    omega) (fun p q l hl hq hT => by
    have hp : p < K := by rw [hK]; exact (List.getElem?_eq_some_iff.1 hl).1
    exact ⟨hp, hP (h.cl rfl) p hp l q hl hq hT.2⟩)
  intro p hp
  exact ⟨fun k => (key p).1 ⟨hp, k⟩, fun k => ((key p).2 k).2⟩
/-- How many rounds may follow. -/
def togo (K : Nat) (a : Bool) (f : Nat → Bool) : Nat := if a then 1 + (K - cntB f K) else 0
theorem togo_lt {K : Nat} {a : Bool} {f0 f : Nat → Bool} (h : a = true → cntB f0 K < cntB f K) : togo K a f < togo K true f0 := by
  have h1 := cntB_le f0 K
  have h2 := cntB_le f K
  unfold togo
  cases a
  · simp
    omega
  · have := h rfl
    simp
    omega
set_option maxHeartbeats 4000000 in
set_option maxRecDepth 100000 in
theorem rLive_any {w : World} {V : Array Value} {D : Df} (H : Hid (dfa w V D)) :
    Calls Try.prog 19 #[.agg V] w fun e w' => livA D w e w' := by
  have HW := H
  obtain ⟨A1, c1, A2, c2, H⟩ := H.out
  have H := Lib.hid H
  obtain ⟨w1, hw1⟩ : ∃ w1, w1 = w.alloc (.cells V 26) := ⟨_, rfl⟩
  have B1 : Hid (Below w.heap.size w w1) := Lib.hid (by rw [hw1]; exact below_alloc _ _)
  have K1 : Hid (Blk w1 w.heap.size 26 V) := Lib.hid (by rw [hw1]; exact Blk.fresh _ _ _)
  obtain ⟨N, hsz, hld⟩ := load_dfa (g := w.heap.size) H.out.size
  have HR := Lib.hid (rRight_any (Lib.hid (HW.out.below B1.out)))
  have hb1 := K1.out
  by_cases ho : okD D
  · have HO := Lib.hid ho
    obtain ⟨K, hK⟩ : ∃ K, K = D.nx.length := ⟨_, rfl⟩
    have hK9 : K ≤ 1000 := by rw [hK]; exact ho.k2
    have hM : K = D.ru.length := by rw [hK, ho.r]
    have HD1 : Hid (∀ u, Below w1.heap.size w1 u → u.cell? ⟨w.heap.size, 256, none⟩ = some (.slice A1 K c1) ∧ u.cell? ⟨w.heap.size, 257, none⟩ = some (.slice A2 K c2)) := Lib.hid (fun u k => ⟨((K1.out.below k).cell 256).trans (by rw [hK]; exact H.out.vn), ((K1.out.below k).cell 257).trans (by rw [hM]; exact H.out.vr)⟩)
    have hmk := made_bol K (by omega)
    have HK := Lib.hid hK
    have HM := Lib.hid hM
    clear ho hK hM
    go_enter Try.func19, Try.ntmps19
    go_upto_region 1 with fail
    rw [← hw1]
    clear hw1
    go_upto_region 3 with (go_at_call 10; refine HR.out.mono ?_; rintro e w2 h2; obtain ⟨rfl, k2⟩ := h2.yes HO.out; have K2 := Lib.hid k2; obtain ⟨d1, d2⟩ := HD1.out _ k2; clear h2 k2 hb1)
    go_upto_region 4 with fail
    obtain ⟨L, hL⟩ : ∃ L, L = w2.heap.size := ⟨_, rfl⟩
    obtain ⟨w6, hw6⟩ : ∃ w6, w6 = w2.alloc (.cells (bol K (fun _ => false)) 4) := ⟨_, rfl⟩
    have HM6 : Hid (Blk w6 L 4 (bol K (ruT D 0))) := Lib.hid (by
      rw [hw6, hL, show ruT D 0 = fun _ => false from by funext p; unfold ruT; exact decide_eq_false (by omega)]
      exact Blk.fresh _ _ _)
    have HB6 : Hid (Below w1.heap.size w1 w6) := Lib.hid (grows K2.out (by rw [hw6]; exact below_alloc _ _))
    have HLB : Hid (w1.heap.size ≤ L) := Lib.hid (by rw [hL]; exact K2.out.size)
    rw [← hw6, ← hL]
    clear hmk hw6 hL d1 d2 hsz hld
    go_wp2
    go_loopw [4] (fun s4 wr => ∃ i : Nat, s4 = .int .i64 (i : Int) ∧ i ≤ K ∧ Hid (Blk wr L 4 (bol K (ruT D i))) ∧ Hid (Below w1.heap.size w1 wr)) (fun s4 _ => K - (intOf s4).toNat)
    case atStart => exact ⟨0, rfl, by omega, HM6, HB6⟩
    case round =>
      clear HM6 HB6
      obtain ⟨i, rfl, hi, HBL, HB⟩ := hrel
      by_cases hin : i < K
      · have hin' : (i : Int) < (K : Int) := by omega
        have hi0 : (0 : Int) ≤ (i : Int) := by omega
        have HIN := Lib.hid hin
        obtain ⟨d1, d2⟩ := HD1.out wr HB.out
        obtain ⟨b2, o2, rfl, hb2, hce⟩ := (H.out.r.below (grows B1.out HB.out)) i (by rw [← HM.out]; exact hin)
        obtain ⟨r, hre⟩ : ∃ r, r = at' D.ru i := ⟨_, rfl⟩
        rw [← hre] at hce
        have HRE := Lib.hid hre
        have cL : wr.cell? ⟨L, i, none⟩ = some (.bool (ruT D i i)) := (HBL.out.cell i).trans (bol_get _ hin)
        have fL := HBL.out.frozen i
        clear hre hb2 hin
        by_cases hr : 0 ≤ r
        · have HX : Hid (true = decide (0 ≤ at' D.ru i)) := Lib.hid (by rw [← HRE.out]; exact (decide_eq_true hr).symm)
          go_wp2
          have hin := HIN.out
          go_roundw
          case rel => exact ⟨i + 1, by go_num, by omega, Lib.hid (by rw [← bol_ru HX.out]; exact HBL.out.store i (.bool true)), Lib.hid (HB.out.setCell HLB.out _)⟩
          case measure => simp [intOf]; omega
        · have HX : Hid (false = decide (0 ≤ at' D.ru i)) := Lib.hid (by rw [← HRE.out]; exact (decide_eq_false hr).symm)
          go_wp2
          have hin := HIN.out
          go_roundw
          case rel => exact ⟨i + 1, by go_num, by omega, Lib.hid (by rw [← bol_ru HX.out]; exact HBL.out.store i (.bool false)), Lib.hid (HB.out.setCell HLB.out _)⟩
          case measure => simp [intOf]; omega
      · have hin' : ¬ (i : Int) < (K : Int) := by omega
        have HSN : Hid (∀ p, p < K → ruT D i p = true → lv D p) := Lib.hid (fun p hp h => by
          unfold ruT at h
          have h := of_decide_eq_true h
          exact .here (at_get (by rw [← HM.out]; exact hp)) h.2)
        have HRU : Hid (∀ p, p < K → 0 ≤ at' D.ru p → ruT D i p = true) := Lib.hid (fun p hp h => decide_eq_true ⟨by omega, h⟩)
        obtain ⟨f, hf⟩ : ∃ f, f = ruT D i := ⟨_, rfl⟩
        rw [← hf] at HBL HSN HRU
        clear hin hi hf
        go_wp2
        go_loopg [5, 6, 7] (togo K true f) (fun gk s5 _ _ wz => ∃ (a : Bool) (f : Nat → Bool), s5 = .bool a ∧ Hid (gk = togo K a f) ∧ Hid (Blk wz L 4 (bol K f)) ∧ Hid (∀ p, p < K → f p = true → lv D p) ∧ Hid (∀ p, p < K → 0 ≤ at' D.ru p → f p = true) ∧ Hid (a = false → ∀ p, p < K → clo1 D f p) ∧ Hid (Below w1.heap.size w1 wz))
        case atStart => exact ⟨true, f, rfl, Lib.hid rfl, HBL, HSN, HRU, Lib.hid (fun k => by cases k), HB⟩
        case round =>
          clear HBL HSN HRU HB
          obtain ⟨a, f, rfl, HGK, HBL, HSN, HRU, HCL, HB⟩ := hrel
          cases a
          · have HLV : Hid (∀ p, p < K → (f p = true ↔ lv D p)) := Lib.hid ((rnd.done (f0 := f) (P := ∀ p, p < K → clo1 D f p) HO.out HK.out ⟨HSN.out, HRU.out, Nat.le_refl _, fun k => (by cases k), HCL.out⟩ (fun k => k)))
            go_wp2
            go_ret
            exact ⟨_, K, K, f, rfl, brow_of HBL.out, Nat.le_refl _, fun _ => ⟨HK.out, HLV.out⟩, fun k => absurd HO.out k, grows B1.out HB.out⟩
          · have HRD : Hid (rnd D K f f false (∀ p, p < 0 → clo1 D f p)) := Lib.hid ⟨HSN.out, HRU.out, Nat.le_refl _, fun k => (by cases k), fun _ p hp => absurd hp (by omega)⟩
            obtain ⟨f0, hf0⟩ : ∃ f0, f0 = f := ⟨_, rfl⟩
            have HRD : Hid (rnd D K f0 f false (∀ p, p < 0 → clo1 D f p)) := Lib.hid (by rw [hf0]; exact HRD.out)
            rw [← hf0] at HGK
            clear hf0 HSN HRU HCL
            go_wp2
            go_loopw [6, 5, 7] (fun s6 s5 _ wz => ∃ (i : Nat) (a : Bool) (f : Nat → Bool), s6 = .int .i64 (i : Int) ∧ s5 = .bool a ∧ i ≤ K ∧ Hid (Blk wz L 4 (bol K f)) ∧ Hid (rnd D K f0 f a (∀ p, p < i → clo1 D f p)) ∧ Hid (Below w1.heap.size w1 wz)) (fun s6 _ _ _ => K - (intOf s6).toNat)
            case atStart => exact ⟨0, false, f, rfl, rfl, by omega, HBL, HRD, HB⟩
            case round =>
              clear HRD HBL HB
              obtain ⟨i, a, f, rfl, rfl, hi, HBL, HRD, HB⟩ := hrel
              by_cases hin : i < K
              · have hin' : (i : Int) < (K : Int) := by omega
                have hi0 : (0 : Int) ≤ (i : Int) := by omega
                have HIN := Lib.hid hin
                obtain ⟨l, hl⟩ : ∃ l, D.nx[i]? = some l := ⟨_, List.getElem?_eq_getElem (by rw [← HK.out]; exact hin)⟩
                obtain ⟨b1, o1, rfl, hb1, A', c', hrw1, hlc, hlm, hr⟩ := (H.out.n.below B1.out) i l hl
                have HL := Lib.hid hl
                have HRO := Lib.hid hr
                obtain ⟨m, _, hrows⟩ := HO.out.row
                have HLM := Lib.hid (hrows l (List.mem_of_getElem? hl)).2
                obtain ⟨X, hX⟩ : ∃ X, X = l.length := ⟨_, rfl⟩
                have HX := Lib.hid hX
                rw [← hX] at hrw1 hlm
                have HRW : Hid (∀ u, Below w1.heap.size w1 u → u.cell? ⟨b1, o1 + i, none⟩ = some (.slice A' X c')) := Lib.hid (fun u q => (q.cell (p := ⟨b1, o1 + i, none⟩) hb1).trans hrw1)
                have HRJ : Hid (rnd D K f0 f a ((∀ p, p < i → clo1 D f p) ∧ ∀ b (q : Nat), b < 0 → l[b]? = some (q : Int) → f q = true → f i = true)) := Lib.hid (HRD.out.to (fun _ k => ⟨k, fun b q hb => absurd hb (by omega)⟩))
                clear hl hr hX hb1 hlc hrw1 hrows hin
                go_wp2
                go_loopw [7, 5] (fun s7 s5 wz => ∃ (j : Nat) (a : Bool) (f : Nat → Bool), s7 = .int .i64 (j : Int) ∧ s5 = .bool a ∧ j ≤ X ∧ Hid (Blk wz L 4 (bol K f)) ∧ Hid (rnd D K f0 f a ((∀ p, p < i → clo1 D f p) ∧ ∀ b (q : Nat), b < j → l[b]? = some (q : Int) → f q = true → f i = true)) ∧ Hid (Below w1.heap.size w1 wz)) (fun s7 _ _ => X - (intOf s7).toNat)
                case atStart => exact ⟨0, a, f, rfl, rfl, by omega, HBL, HRJ, HB⟩
                case round =>
                  clear HRJ HRD HBL HB
                  obtain ⟨j, a, f, rfl, rfl, hj, HBL, HRD, HB⟩ := hrel
                  have d1 := (HD1.out wr HB.out).1
                  have hrw := HRW.out wr HB.out
                  by_cases hjn : j < X
                  · have hjn' : (j : Int) < (X : Int) := by omega
                    have hj0 : (0 : Int) ≤ (j : Int) := by omega
                    have HJN := Lib.hid hjn
                    obtain ⟨b3, o3, rfl, _, hce⟩ := (HRO.out.below HB.out) j (by rw [← HX.out]; exact hjn)
                    obtain ⟨x, hx⟩ : ∃ x, l[j]? = some x := ⟨_, List.getElem?_eq_getElem (by rw [← HX.out]; exact hjn)⟩
                    have hxa : at' l j = x := by rw [at_get (by rw [← HX.out]; exact hjn)] at hx; exact Option.some.inj hx
                    rw [hxa] at hce
                    obtain ⟨hx0, hxK⟩ := HLM.out x (List.mem_of_getElem? hx)
                    obtain ⟨q, rfl⟩ := Int.eq_ofNat_of_zero_le hx0
                    have hq : q < K := by rw [HK.out]; omega
                    have hq' : (q : Int) < (K : Int) := by omega
                    have hq0 : (0 : Int) ≤ (q : Int) := by omega
                    have HLX := Lib.hid hx
                    have HQ := Lib.hid hq
                    have e1 : wr.cell? ⟨L, i, none⟩ = some (.bool (f i)) := (HBL.out.cell i).trans (bol_get _ HIN.out)
                    have e2 : wr.cell? ⟨L, q, none⟩ = some (.bool (f q)) := (HBL.out.cell q).trans (bol_get _ hq)
                    have e3 := HBL.out.frozen i
                    obtain ⟨bi, hbi⟩ : ∃ bi, bi = f i := ⟨_, rfl⟩
                    obtain ⟨bq, hbq⟩ : ∃ bq, bq = f q := ⟨_, rfl⟩
                    rw [← hbi] at e1
                    rw [← hbq] at e2
                    have HBI := Lib.hid hbi
                    have HBQ := Lib.hid hbq
                    clear hx hxa hx0 hxK hq hbi hbq hjn
                    cases bi with
                    | true =>
                      have HRN : Hid (rnd D K f0 f a ((∀ p, p < i → clo1 D f p) ∧ ∀ b (q : Nat), b < j + 1 → l[b]? = some (q : Int) → f q = true → f i = true)) := Lib.hid (HRD.out.to (fun _ k => ⟨k.1, fun _ _ _ _ _ => HBI.out.symm⟩))
                      clear e2
                      go_wp2
                      have hjn := HJN.out
                      go_roundw
                      case rel => exact ⟨j + 1, a, f, by go_num, rfl, by omega, HBL, HRN, HB⟩
                      case measure => simp [intOf]; omega
                    | false =>
                      cases bq with
                      | true =>
                        have HRN : Hid (rnd D K f0 (setT f i) true ((∀ p, p < i → clo1 D (setT f i) p) ∧ ∀ b (q : Nat), b < j + 1 → l[b]? = some (q : Int) → (setT f i) q = true → (setT f i) i = true)) := Lib.hid (HRD.out.step HIN.out HBI.out.symm (.next HL.out (List.mem_of_getElem? HLX.out) (HRD.out.snd q HQ.out HBQ.out.symm)))
                        go_wp2
                        have hjn := HJN.out
                        go_roundw
                        case rel => exact ⟨j + 1, true, setT f i, by go_num, rfl, by omega, Lib.hid (by rw [← bol_set]; exact HBL.out.store i (.bool true)), HRN, Lib.hid (HB.out.setCell HLB.out _)⟩
                        case measure => simp [intOf]; omega
                      | false =>
                        have HRN : Hid (rnd D K f0 f a ((∀ p, p < i → clo1 D f p) ∧ ∀ b (q : Nat), b < j + 1 → l[b]? = some (q : Int) → f q = true → f i = true)) := Lib.hid (HRD.out.to (fun _ k => ⟨k.1, fun b r hb hr hf => by
                          rcases (show b < j ∨ b = j by omega) with h | rfl
                          · exact k.2 b r h hr hf
                          · rw [HLX.out] at hr
                            have := Option.some.inj hr
                            obtain rfl : q = r := by omega
                            rw [← HBQ.out] at hf
                            cases hf⟩))
                        go_wp2
                        have hjn := HJN.out
                        go_roundw
                        case rel => exact ⟨j + 1, a, f, by go_num, rfl, by omega, HBL, HRN, HB⟩
                        case measure => simp [intOf]; omega
                  · have hjn' : ¬ (j : Int) < (X : Int) := by omega
                    have HRN : Hid (rnd D K f0 f a (∀ p, p < i + 1 → clo1 D f p)) := Lib.hid (HRD.out.to (fun _ k p hp => by
                      rcases (show p < i ∨ p = i by omega) with h | rfl
                      · exact k.1 p h
                      · intro l' q hl' hq hf
                        rw [HL.out] at hl'
                        obtain rfl := Option.some.inj hl'
                        obtain ⟨b, hb⟩ := List.mem_iff_getElem?.1 hq
                        exact k.2 b q (by have := (List.getElem?_eq_some_iff.1 hb).1; have := HX.out; omega) hb hf))
                    clear hjn hj
                    go_wp2
                    have hin := HIN.out
                    go_roundw
                    case rel => exact ⟨i + 1, a, f, by go_num, rfl, by omega, HBL, HRN, HB⟩
                    case measure => simp [intOf]; omega
              · have hin' : ¬ (i : Int) < (K : Int) := by omega
                have HIK : Hid (K ≤ i) := Lib.hid (by omega)
                clear hin hi
                go_wp2
                go_roundg (togo K a f)
                case measure => rw [HGK.out]; exact togo_lt HRD.out.lt
                case rel => exact ⟨a, f, rfl, Lib.hid rfl, HBL, Lib.hid HRD.out.snd, Lib.hid HRD.out.ru, Lib.hid (fun k p hp => HRD.out.cl k p (by have := HIK.out; omega)), HB⟩
  · have HO := Lib.hid ho
    clear ho
    go_enter Try.func19, Try.ntmps19
    go_upto_region 1 with fail
    rw [← hw1]
    clear hw1
    go_wp2_with (go_at_call 10; refine HR.out.mono ?_; rintro e w2 h2; obtain ⟨rfl, k2⟩ := h2.no HO.out; have K2 := Lib.hid k2; clear h2 k2 hb1)
    go_ret
    exact ⟨none, 0, 0, fun _ => false, rfl, fun i hi => absurd hi (by omega), Nat.le_refl _, fun k => absurd k HO.out, fun _ => rfl, grows B1.out K2.out⟩
end Go.Proofs.Ytfipagndpoahlaa.Uo
