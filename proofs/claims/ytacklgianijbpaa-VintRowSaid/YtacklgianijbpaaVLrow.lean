/-
  collimatorlaw01.VintRow returns true for every list of strings, and its argument reads afterwards as it read before: strings that were laid down one behind the other, each behind its length, are read as they were.
  Conditions: none.
-/
import Derived.Test.YtacklgianijbpaaVk
import Derived.Test.YtacklgianijbpaaVs
import Derived.Test.YtacklgianijbpaaLw
import Derived.SliceStrings
import Derived.ShutString
namespace Go.Proofs.Ytacklgianijbpaa.vintRow
open Go.ChangeShapes Go.WideShapes Go.ChangeAt Go.RowKit
open Go.Proofs.Ytacklgianijbpaa.Lw Go.Proofs.Ytacklgianijbpaa.Vm Go.Proofs.Ytacklgianijbpaa.Vo Go.Proofs.Ytacklgianijbpaa.Vw Go.Proofs.Ytacklgianijbpaa.Vb Go.Proofs.Ytacklgianijbpaa.Vg Go.Proofs.Ytacklgianijbpaa.Vk Go.Proofs.Ytacklgianijbpaa.Vt Go.Proofs.Ytacklgianijbpaa.Vq Go.Proofs.Ytacklgianijbpaa.Vs

theorem own : ownKnob Try.prog.godebug = none := by kernel_rfl

set_option maxRecDepth 100000 in
theorem walk_none (a : Option Addr) (cap : Nat) (w : World) :
    Calls Try.prog 7 #[.slice a 0 cap] w fun e w' => e = .returned (.bool true) ∧ Below w.heap.size w w' := by
  go_enter Try.func7, Try.ntmps7
  go_wp2
  refine wp_loop_rounds 1 ?_
  rw [rounds_succ]
  go_wp2
  refine wp_loop_rounds 1 ?_
  rw [rounds_succ]
  go_wp2_with (go_at_call 12; refine (known_any _).mono ?_; rintro e w' ⟨rfl, hb⟩)
  go_ret
  exact ⟨rfl, hb⟩

set_option maxHeartbeats 1000000 in
set_option maxRecDepth 100000 in
theorem walk_some (b off len cap : Nat) (ss : List ByteArray) (w : World) (hl : 1 ≤ len) (hl1 : len ≤ 9223372036854775807) (hz : len ≤ ss.length) (hb : b < w.heap.size)
    (hc : ∀ j, j < ss.length → w.cell? ⟨b, off + j, none⟩ = some (.string (ss.getD j ByteArray.empty))) (hs : ∀ s ∈ ss, s.size ≤ 9223372036854775807) :
    Calls Try.prog 7 #[.slice (some ⟨b, off, none⟩) len cap] w fun e w' => e = .returned (.bool true) ∧ Below w.heap.size w w' := by
  have HC := Lib.hid hc
  have HS := Lib.hid hs
  clear hc hs
  go_enter Try.func7, Try.ntmps7
  go_wp2
  go_loopw [3, 4] (fun s i wr => ∃ k : Nat, k ≤ len ∧ k ≤ 30 ∧ i = .int .i64 k ∧ s = .string ⟨(encs (ss.take k)).toArray⟩ ∧ (encs (ss.take k)).length ≤ 2009 * k ∧ Hid (∀ j, j < k → (ss.getD j ByteArray.empty).size ≤ 2000) ∧ Below w.heap.size w wr)
    (fun _ i _ => 30 - (intOf i).toNat)
  case atStart => exact ⟨0, by omega, by omega, rfl, rfl, by simp [encs], Lib.hid (fun j hj => absurd hj (by omega)), Below.refl _ _⟩
  case round =>
    obtain ⟨k, hk, hk30, rfl, rfl, hle, HT, hbel⟩ := hrel
    by_cases hgo : k < len ∧ k < 30
    · obtain ⟨hlt, h30⟩ := hgo
      have hcell : wr.cell? ⟨b, off + k, none⟩ = some (.string (ss.getD k ByteArray.empty)) := (hbel.cell (p := ⟨b, off + k, none⟩) hb).trans (HC.out k (by omega))
      have hsz : (ss.getD k ByteArray.empty).size ≤ 9223372036854775807 := size_at HS (by omega)
      have HN := Lib.hid (encs_next (ss := ss) (k := k) (by omega))
      generalize hT : ss.getD k ByteArray.empty = T at *
      have HTk := Lib.hid hT
      clear hT
      by_cases h2 : 2000 < T.size
      · go_wp2_with (go_at_call 12; refine (known_any _).mono ?_; rintro e w' ⟨rfl, hb'⟩)
        go_ret
        exact ⟨rfl, hbel.trans (hb'.mono hbel.size)⟩
      · have htl := textR_length (t := T) (by omega)
        have hsum : (encs (ss.take (k + 1))).length ≤ 2009 * (k + 1) := by rw [HN.out, List.length_append]; omega
        have HT' := small_next HT HTk (by omega)
        have HU := Lib.hid hsum
        generalize hS : encs (ss.take k) = S at *
        have HSk := Lib.hid hS
        clear hS hsum
        go_wp2_with (go_at_call 19; refine (Text_any _ _ (by omega)).mono ?_; rintro e w1 ⟨rfl, hb1⟩)
        go_roundw
        case rel => exact ⟨k + 1, by omega, by omega, by go_num, str_snoc HN, HU.out, HT', hbel.trans (hb1.mono hbel.size)⟩
        case measure => simp [intOf]; omega
    · rcases (show ¬ k < len ∨ (k < len ∧ ¬ k < 30) from by omega) with h | ⟨h, h'⟩
      all_goals
        clear hgo
        go_wp2
        go_loopw [5, 6] (fun a i wr => ∃ j : Nat, j ≤ k ∧ i = .int .i64 j ∧ a = .int .i64 ((encs (ss.take j)).length : Nat) ∧ Below w.heap.size w wr)
          (fun _ i _ => k - (intOf i).toNat)
        case atStart => exact ⟨0, by omega, rfl, rfl, hbel⟩
        case round =>
          clear hbel
          obtain ⟨j, hj, rfl, rfl, hbel⟩ := hrel
          by_cases hjk : j < k
          · have hcell : wr.cell? ⟨b, off + j, none⟩ = some (.string (ss.getD j ByteArray.empty)) := (hbel.cell (p := ⟨b, off + j, none⟩) hb).trans (HC.out j (by omega))
            have HR := Lib.hid (nextR_row (ss := ss) (k := j) (m := k) hjk (by omega) (HT.out j hjk))
            have hup : (encs (ss.take j)).length < (encs (ss.take (j + 1))).length := by
              rw [encs_next (by omega), List.length_append]
              have := (textR_length (t := ss.getD j ByteArray.empty) (HT.out j hjk)).1
              omega
            have hup1 : (encs (ss.take (j + 1))).length ≤ 9223372036854775807 := len_top (by omega) (by omega) HT (by omega)
            have HSZ : Hid ((⟨(encs (ss.take k)).toArray⟩ : ByteArray).size ≤ 281474976710656) := Lib.hid (by rw [size_of_list]; omega)
            generalize hE : encs (ss.take (j + 1)) = E1 at *
            have HE := Lib.hid hE
            clear hE
            generalize ss.getD j ByteArray.empty = T at *
            go_wp2_with fail
            refine (Next_any _ ((encs (ss.take j)).length : Int) _ HSZ.out (by omega)).mono ?_
            rintro e w1 ⟨rfl, hb1⟩
            rw [HR.out, bytes_back]
            have hcell' : w1.cell? ⟨b, off + j, none⟩ = some (.string T) := (hb1.cell (p := ⟨b, off + j, none⟩) (Nat.lt_of_lt_of_le hb hbel.size)).trans hcell
            clear hcell
            go_wp2
            go_roundw
            case rel => exact ⟨j + 1, by omega, by go_num, by rw [HE.out], hbel.trans (hb1.mono hbel.size)⟩
            case measure => simp [intOf]; omega
          · obtain rfl : j = k := by omega
            go_wp2_with (go_at_call 12; refine (known_any _).mono ?_; rintro e w' ⟨rfl, hb'⟩)
            go_ret
            exact ⟨rfl, hbel.trans (hb'.mono hbel.size)⟩

theorem laidOut : laidOutB Try.prog = true := by kernel_rfl
theorem cells9 : Try.prog.cellsOf 9 = 1 := by kernel_rfl

set_option maxRecDepth 100000 in
theorem lifted (os : Os) (started : os.Started) (H : Type) (enc : TypeId × Value → H) :
    ReturnsInHanded {} Try.checked os 7 .any (Rows.vintRowSpec.pre6 enc Try.prog Try.f7 Rows.vintRowRow.domain false) (Rows.vintRowSpec.post enc Try.prog Try.f7 false true false false) := by
  refine returnsInHanded_of_change (C := Try.checked) own started (by kernel_rfl) Try.func7
    (ChangeSpec.witness6 (enc := enc) (C := Try.checked) false ⟨#[], #[.slice none 0 0], []⟩ 8 (by kernel_rfl) (by kernel_rfl) (by kernel_rfl) (by kernel_rfl)) ?_
  intro W base args ds gs before hval0 hW _ _
  have hval : ∀ (j : Nat) t v, Try.f7.params[j]? = some t → args[j]? = some v → Value.okWide Try.prog W .any base t v := hval0
  have hW' := hW
  obtain ⟨p, q, hA0, hV, rfl, hfz, hnd⟩ := hW
  have hA : DataW.TrodAll enc Try.prog W 0 (fun _ => true) true Try.f7.params.toList args.toList ds p := hA0
  rw [Try.params7] at hA hval
  obtain ⟨v0, vs0, d0, ds0, p0, q0, hargs, rfl, rfl, h0, r0⟩ := trodAll_cons hA
  obtain ⟨rfl, rfl, rfl⟩ := trodAll_nil r0
  obtain rfl : args = #[v0] := by cases args; simp_all
  obtain ⟨rfl, rfl⟩ := trodVars_none hV
  obtain ⟨a0, len, cap, rfl⟩ := okWide_slice Try.underlying40 (hval 0 40 v0 rfl rfl)
  have fin : (Calls Try.prog 7 #[.slice a0 len cap] W fun e w' => e = .returned (.bool true) ∧ Below W.heap.size W w') →
      Calls Try.checked.prog 7 #[.slice a0 len cap] W fun e W' => ∃ v, e = Ending.returned v ∧ Rows.vintRowSpec.post enc Try.checked.prog Try.f7 false true false false W #[.slice a0 len cap] v W' := fun h =>
    h.mono fun e W' ⟨he, hb⟩ => by
      subst he
      exact ⟨_, rfl, law_post (P := Try.prog) (f := Try.f7) laidOut (by kernel_rfl) (by kernel_rfl) Try.underlying4 rfl hW' rfl hb⟩
  apply fin
  clear fin
  obtain ⟨fuel, hf⟩ := h0
  rcases open_strings Try.underlying40 Try.underlying9 cells9 hf with ⟨hcs, hx⟩ | ⟨a, len', cap', ss, hcs, _, hl, hm, hz, hx, hcell, hws⟩
  · simp [Value.cells] at hcs
    obtain ⟨rfl, rfl, rfl⟩ := hcs
    exact walk_none none 0 W
  · simp [Value.cells] at hcs
    obtain ⟨rfl, rfl, rfl⟩ := hcs
    simp only [if_true] at hz
    by_cases hl0 : len = 0
    · subst hl0
      exact walk_none _ cap W
    · obtain ⟨b, off, spot⟩ := a
      have hc0 := hcell 0 (by omega)
      have hspot : spot = none := by simpa [Addr.add] using World.cell?_spot hc0
      subst hspot
      have hbW : b < W.heap.size := by simpa [Addr.add] using World.block_lt_of_cell? _ _ hc0
      unfold maxLen at hm hws
      exact walk_some b off len cap ss W (by omega) (by omega) (by omega) hbW (fun j hj => by rw [← add_plain]; exact hcell j hj) hws

theorem proved : Rows.VintRowSaid :=
  OpenClaim.holds_of_wide 7 Try.f7 rfl rfl rfl rfl rfl rfl rfl ⟨rfl, rfl, rfl, rfl, rfl⟩ rfl rfl rfl rfl rfl (by kernel_rfl) Try.func7 (by kernel_rfl)
    (of_decide_eq_true (by kernel_rfl)) (by unfold Func.isWrapper; first | (rw [if_pos (by decide +kernel)]; kernel_rfl) | (rw [if_neg (by decide +kernel)]; exact ⟨rfl, rfl⟩))
    (fun os started H enc _ => lifted os started H enc)
#print axioms proved
end Go.Proofs.Ytacklgianijbpaa.vintRow
