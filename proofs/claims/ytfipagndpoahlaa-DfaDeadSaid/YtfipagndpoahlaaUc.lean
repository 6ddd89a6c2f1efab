/-
  The program's small functions of layer 18: isRule, isState, isRow, countClasses, step.
  Conditions: as each theorem says.
-/
import Derived.Test.YtfipagndpoahlaaUb
import Derived.BigQuiet
import Derived.BigRegion
import Derived.Deep.DeepCutAuto
import Derived.Deep.LoopGhost
namespace Go.Proofs.Ytfipagndpoahlaa.Uc
open Go.RowKit Go.Proofs.Ytfipagndpoahlaa.Bw Go.Proofs.Ytfipagndpoahlaa.Na Go.Proofs.Ytfipagndpoahlaa.Ko Go.Proofs.Ytfipagndpoahlaa.Ua Go.Proofs.Ytfipagndpoahlaa.Ub

theorem not_iff_false {p : Prop} (h : ¬ p) : (false = true ↔ p) := ⟨fun k => (by cases k), fun k => absurd k h⟩
theorem is_iff_true {p : Prop} (h : p) : (true = true ↔ p) := ⟨fun _ => h, fun _ => rfl⟩
/-- A truth is answered. -/
def ansB (p : Prop) (w : World) (e : Ending) (w' : World) : Prop := ∃ b, e = .returned (.bool b) ∧ (b = true ↔ p) ∧ Below w.heap.size w w'
theorem ansB.yes {p : Prop} {w w' : World} {e : Ending} (h : ansB p w e w') (hp : p) : e = .returned (.bool true) ∧ Below w.heap.size w w' := by
  obtain ⟨b, rfl, hb, k⟩ := h
  exact ⟨by rw [hb.2 hp], k⟩
theorem ansB.no {p : Prop} {w w' : World} {e : Ending} (h : ansB p w e w') (hp : ¬ p) : e = .returned (.bool false) ∧ Below w.heap.size w w' := by
  obtain ⟨b, rfl, hb, k⟩ := h
  refine ⟨?_, k⟩
  cases b
  · rfl
  · exact absurd (hb.1 rfl) hp
/-- A rule's number may be so. -/
def isR (z : Int) : Bool := decide (-1 ≤ z ∧ z ≤ 31)
/-- A state's number is so. -/
def inS (D : Df) (z : Int) : Prop := 0 ≤ z ∧ z < (D.nx.length : Int)
set_option maxRecDepth 100000 in
theorem isRule_any (z : Int) (w : World) : Calls Try.prog 25 #[.int .i64 z] w fun e w' => e = .returned (.bool (isR z)) ∧ w = w' := by
  by_cases h : -1 ≤ z
  · by_cases h2 : z < 32
    · have HD : Hid (isR z = true) := Lib.hid (decide_eq_true ⟨h, by omega⟩)
      go_enter Try.func25, Try.ntmps25
      go_wp2
      go_ret
      exact ⟨by rw [HD.out]; rfl, rfl⟩
    · have HD : Hid (isR z = false) := Lib.hid (decide_eq_false (by omega))
      go_enter Try.func25, Try.ntmps25
      go_wp2
      go_ret
      exact ⟨by rw [HD.out]; rfl, rfl⟩
  · have HD : Hid (isR z = false) := Lib.hid (decide_eq_false (by omega))
    go_enter Try.func25, Try.ntmps25
    go_wp2
    go_ret
    exact ⟨by rw [HD.out]; rfl, rfl⟩
set_option maxRecDepth 100000 in
theorem isState_any {w : World} {V : Array Value} {D : Df} (z : Int) (H : Hid (dfa w V D)) :
    Calls Try.prog 26 #[.agg V, .int .i64 z] w fun e w' => ansB (inS D z) w e w' := by
  obtain ⟨A1, c1, A2, c2, H⟩ := H.out
  have H := Lib.hid H
  obtain ⟨K, hK⟩ : ∃ K, K = D.nx.length := ⟨_, rfl⟩
  obtain ⟨w1, hw1⟩ : ∃ w1, w1 = w.alloc (.cells V 26) := ⟨_, rfl⟩
  have B1 : Hid (Below w.heap.size w w1) := Lib.hid (by rw [hw1]; exact below_alloc _ _)
  have K1 : Hid (Blk w1 w.heap.size 26 V) := Lib.hid (by rw [hw1]; exact Blk.fresh _ _ _)
  have d1 : w1.cell? ⟨w.heap.size, 256, none⟩ = some (.slice A1 K c1) := (K1.out.cell 256).trans (by rw [hK]; exact H.out.vn)
  have HKK := Lib.hid hK
  clear hK
  by_cases h : 0 ≤ z
  · by_cases h2 : z < (K : Int)
    · have HX : Hid (inS D z) := Lib.hid ⟨h, by rw [← HKK.out]; exact h2⟩
      go_enter Try.func26, Try.ntmps26
      go_upto_region 1 with fail
      rw [← hw1]
      clear hw1
      go_wp2
      go_ret
      exact ⟨_, rfl, is_iff_true HX.out, B1.out⟩
    · have HX : Hid (¬ inS D z) := Lib.hid (fun k => h2 (by rw [HKK.out]; exact k.2))
      go_enter Try.func26, Try.ntmps26
      go_upto_region 1 with fail
      rw [← hw1]
      clear hw1
      go_wp2
      go_ret
      exact ⟨_, rfl, not_iff_false HX.out, B1.out⟩
  · have HX : Hid (¬ inS D z) := Lib.hid (fun k => h k.1)
    go_enter Try.func26, Try.ntmps26
    go_upto_region 1 with fail
    rw [← hw1]
    clear hw1
    go_wp2
    go_ret
    exact ⟨_, rfl, not_iff_false HX.out, B1.out⟩
/-- Each of a row's states is one. -/
def okL (D : Df) (l : List Int) (m : Nat) : Prop := l.length = m ∧ ∀ x ∈ l, inS D x
set_option maxHeartbeats 1000000 in
set_option maxRecDepth 100000 in
theorem isRow_any {w : World} {V : Array Value} {D : Df} {A : Option Addr} {c m : Nat} {l : List Int} (hl : l.length ≤ 9223372036854775807) (H : Hid (dfa w V D)) (HR : Hid (row w A l.length (at' l))) :
    Calls Try.prog 24 #[.agg V, .slice A l.length c, .int .i64 (m : Int)] w fun e w' => ansB (okL D l m) w e w' := by
  obtain ⟨n, hn⟩ : ∃ n, n = l.length := ⟨_, rfl⟩
  obtain ⟨w1, hw1⟩ : ∃ w1, w1 = w.alloc (.cells V 26) := ⟨_, rfl⟩
  have B1 : Hid (Below w.heap.size w w1) := Lib.hid (by rw [hw1]; exact below_alloc _ _)
  have K1 : Hid (Blk w1 w.heap.size 26 V) := Lib.hid (by rw [hw1]; exact Blk.fresh _ _ _)
  have HV : Hid ((Try.prog.info? 26).map (·.size) = some V.size) := Lib.hid (by
    obtain ⟨A1, c1, A2, c2, h⟩ := H.out
    rw [h.size]; exact infoD)
  have HN := Lib.hid hn
  rw [← hn] at hl ⊢
  clear hn
  by_cases h : n = m
  · subst h
    go_enter Try.func24, Try.ntmps24
    go_upto_region 1 with fail
    rw [← hw1]
    clear hw1
    go_wp2
    go_loopw [15, 8] (fun s15 _ wr => ∃ i : Nat, s15 = .int .i64 (i : Int) ∧ i ≤ n ∧ Hid (∀ a x, a < i → l[a]? = some x → inS D x) ∧ Hid (Below w1.heap.size w1 wr)) (fun s15 _ _ => n - (intOf s15).toNat)
    case atStart => exact ⟨0, rfl, by omega, Lib.hid (fun a x ha => absurd ha (by omega)), Lib.hid (Below.refl _ _)⟩
    case round =>
      obtain ⟨i, rfl, hi, HZ, HB⟩ := hrel
      by_cases hin : i < n
      · have hin' : (i : Int) < (n : Int) := by omega
        have hi0 : (0 : Int) ≤ (i : Int) := by omega
        have HIN := Lib.hid hin
        have HBW := Lib.hid (grows B1.out HB.out)
        obtain ⟨b, o, rfl, hb, hc⟩ := (HR.out.below HBW.out) i (by rw [← HN.out]; exact hin)
        obtain ⟨x, hx⟩ : ∃ x, x = at' l i := ⟨_, rfl⟩
        rw [← hx] at hc
        have HX : Hid (l[i]? = some x) := Lib.hid (by rw [hx]; exact at_get (by rw [← HN.out]; exact hin))
        have HK := Lib.hid (K1.out.below HB.out)
        have HS := Lib.hid (isState_any x (Lib.hid (H.out.below HBW.out)))
        clear hx hin hb
        by_cases hxs : inS D x
        · have HNX : Hid (∀ a y, a < i + 1 → l[a]? = some y → inS D y) := Lib.hid (fun a y ha hy => by
            rcases (show a < i ∨ a = i by omega) with h | rfl
            · exact HZ.out a y h hy
            · rw [HX.out] at hy
              obtain rfl := Option.some.inj hy
              exact hxs)
          have HXS := Lib.hid hxs
          clear hxs
          go_wp2_with (first | (refine wpList_load_part rfl 26 _ rfl w.heap.size 0 rfl V _ (Blk_part HK.out) Try.underlying26 rfl HV.out ?_) | (go_at_call 26; refine HS.out.mono ?_; rintro e w2 h2; obtain ⟨rfl, k2⟩ := h2.yes HXS.out; have K2 := Lib.hid (grows HB.out k2); clear h2 k2))
          go_roundw
          case rel => exact ⟨i + 1, by go_num, by have := HIN.out; omega, HNX, K2⟩
          case measure => have := HIN.out; simp [intOf]; omega
        · have HXS := Lib.hid hxs
          have HNO : Hid (¬ okL D l n) := Lib.hid (fun k => HXS.out (k.2 x (List.mem_of_getElem? HX.out)))
          clear hxs
          go_wp2_with (first | (refine wpList_load_part rfl 26 _ rfl w.heap.size 0 rfl V _ (Blk_part HK.out) Try.underlying26 rfl HV.out ?_) | (go_at_call 26; refine HS.out.mono ?_; rintro e w2 h2; obtain ⟨rfl, k2⟩ := h2.no HXS.out; have K2 := Lib.hid (grows HBW.out k2); clear h2 k2))
          go_ret
          exact ⟨_, rfl, not_iff_false HNO.out, K2.out⟩
      · have hin' : ¬ (i : Int) < (n : Int) := by omega
        have HY : Hid (okL D l n) := Lib.hid ⟨HN.out.symm, fun x hx => by
          obtain ⟨a, ha⟩ := List.mem_iff_getElem?.1 hx
          exact HZ.out a x (by have := (List.getElem?_eq_some_iff.1 ha).1; have := HN.out; omega) ha⟩
        clear hin hi
        go_wp2
        go_ret
        exact ⟨_, rfl, is_iff_true HY.out, grows B1.out HB.out⟩
  · have HNO : Hid (¬ okL D l m) := Lib.hid (fun k => h (HN.out.trans k.1))
    go_enter Try.func24, Try.ntmps24
    go_upto_region 1 with fail
    rw [← hw1]
    clear hw1
    go_wp2
    go_ret
    exact ⟨_, rfl, not_iff_false HNO.out, B1.out⟩
end Go.Proofs.Ytfipagndpoahlaa.Uc
