/-
  Bools; the automata of layer 18's fixed calls, and what is told of them.
  Conditions: as each theorem says.
-/
import Derived.Test.YtfipagndpoahlaaUo
import Derived.Great.BuildSlice
namespace Go.Proofs.Ytfipagndpoahlaa.Up
open Go.RowKit Go.PlainAid Go.Proofs.Ytfipagndpoahlaa.Bw Go.Proofs.Ytfipagndpoahlaa.Na Go.Proofs.Ytfipagndpoahlaa.Ko Go.Proofs.Ytfipagndpoahlaa.Ua Go.Proofs.Ytfipagndpoahlaa.Ub Go.Proofs.Ytfipagndpoahlaa.Uc Go.Proofs.Ytfipagndpoahlaa.Ud Go.Proofs.Ytfipagndpoahlaa.Ue Go.Proofs.Ytfipagndpoahlaa.Uf Go.Proofs.Ytfipagndpoahlaa.Ug Go.Proofs.Ytfipagndpoahlaa.Ui Go.Proofs.Ytfipagndpoahlaa.Uj Go.Proofs.Ytfipagndpoahlaa.Ul Go.Proofs.Ytfipagndpoahlaa.Um Go.Proofs.Ytfipagndpoahlaa.Un

set_option maxHeartbeats 1000000 in
set_option maxRecDepth 100000 in
theorem Bools_same {w : World} {A A' : Option Addr} {n c c' : Nat} {f g : Nat → Bool} (hn : n ≤ 9223372036854775807) (hfg : ∀ i, i < n → f i = g i) (H : Hid (brow w A n f)) (H' : Hid (brow w A' n g)) :
    Calls Try.prog 17 #[.slice A n c, .slice A' n c'] w fun e w' => e = .returned (.bool true) ∧ Below w.heap.size w w' := by
  have HFG := Lib.hid hfg
  clear hfg
  go_enter Try.func17, Try.ntmps17
  go_wp2
  go_loopw [5] (fun s5 wr => ∃ j : Nat, s5 = .int .i64 (j : Int) ∧ j ≤ n ∧ Hid (Below w.heap.size w wr)) (fun s5 _ => n - (intOf s5).toNat)
  case atStart => exact ⟨0, rfl, by omega, Lib.hid (Below.refl _ _)⟩
  case round =>
    obtain ⟨j, rfl, hj, HG⟩ := hrel
    by_cases hjn : j < n
    · have hjn' : (j : Int) < (n : Int) := by omega
      have hj0 : (0 : Int) ≤ (j : Int) := by omega
      have HJN := Lib.hid hjn
      obtain ⟨b3, o3, rfl, _, hce⟩ := (H.out.below HG.out) j hjn
      obtain ⟨b4, o4, rfl, _, hce'⟩ := (H'.out.below HG.out) j hjn
      rw [← HFG.out j hjn] at hce'
      obtain ⟨x, hx⟩ : ∃ x, x = f j := ⟨_, rfl⟩
      rw [← hx] at hce hce'
      clear hx hjn
      cases x
      all_goals
        go_wp2
        go_quiet (fail)
        go_wp2
        have hjn := HJN.out
        go_roundw
        case rel => exact ⟨j + 1, by go_num, by omega, Lib.hid (below_drn HG.out _)⟩
        case measure => simp [intOf]; omega
    · have hjn' : ¬ (j : Int) < (n : Int) := by omega
      clear hjn hj
      go_wp2
      go_ret
      exact ⟨rfl, HG.out⟩

/-- All bytes are of one class. -/
def cl0 : List Int := List.replicate 256 0
theorem cl0_len : cl0.length = 256 := by unfold cl0; exact List.length_replicate
theorem clsQ_rep (k : Nat) : ∀ n, clsQ (List.replicate n 0) (k + 1) = some (k + 1)
  | 0 => rfl
  | n + 1 => by
    rw [List.replicate_succ, clsQ, if_neg (by omega), if_neg (by omega)]
    exact clsQ_rep k n
theorem clsQ_cl0 : clsQ cl0 0 = some 1 := by
  unfold cl0
  rw [show (256 : Nat) = 255 + 1 from rfl, List.replicate_succ, clsQ, if_neg (by omega), if_pos (by simp)]
  exact clsQ_rep 0 255
/-- The zero cells of an automaton. -/
def dz : Array Value := ((Array.replicate 258 (Value.int .i64 0)).setIfInBounds 256 (.slice none 0 0)).setIfInBounds 257 (.slice none 0 0)
theorem infoZ : (Try.prog.info? 26).map (fun i => (i.zero, i.size)) = some (some (.agg dz), 258) := by kernel_rfl
theorem places : (Try.prog.underlying 26).map (fun d => match d with | .struct fs => fs.toList.mapM (fun f => (Try.prog.info? f.type).map fun i => (f.offset, i.size)) | _ => none) = some (some [(0, 256), (256, 1), (257, 1)]) := by kernel_rfl
theorem dz_get {i : Nat} (h : i < 258) : dz[i]? = some (dcell (.slice none 0 0) (.slice none 0 0) cl0 i) := by
  unfold dz dcell
  rw [Array.getElem?_setIfInBounds, Array.getElem?_setIfInBounds]
  by_cases h7 : 257 = i
  · subst h7; simp
  · by_cases h6 : 256 = i
    · subst h6; simp
    · rw [if_neg h7, if_neg h6, if_pos (by omega)]
      have : at' cl0 i = 0 := by
        unfold at' cl0
        rw [List.getD_eq_getElem?_getD, List.getElem?_replicate, if_pos (by omega)]; rfl
      rw [this, Array.getElem?_replicate, if_pos (by omega)]
theorem dz_size : dz.size = 258 := by unfold dz; simp
theorem dz_is : dz = dcs (.slice none 0 0) (.slice none 0 0) cl0 := by
  refine Array.ext_getElem? (fun i => ?_)
  by_cases h : i < 258
  · rw [dz_get h]
    exact (celN_get _ h).symm
  · rw [Array.getElem?_eq_none (by rw [dz_size]; omega), Array.getElem?_eq_none (by unfold dcs; rw [celN_size]; omega)]
theorem dcs_set (v1 v2 v1' v2' : Value) (cl : List Int) : ((dcs v1 v2 cl).setIfInBounds 256 v1').setIfInBounds 257 v2' = dcs v1' v2' cl := by
  unfold dcs
  rw [celN_set, celN_set]
  refine celN_congr (fun i hi => ?_)
  unfold dcell
  by_cases h7 : i = 257
  · rw [if_pos h7, if_neg (by omega), if_neg (by omega)]
  · rw [if_neg h7]
    by_cases h6 : i = 256
    · rw [if_pos h6, if_neg (by omega), if_pos h6]
    · rw [if_neg h6]
      by_cases h5 : i < 256
      · rw [if_pos h5, if_pos h5]
      · omega
theorem built (a1 a2 : Option Addr) (n1 c1 n2 c2 : Nat) : Try.prog.built 26 [(1, .slice a1 n1 c1), (2, .slice a2 n2 c2)] = some (dcs (.slice a1 n1 c1) (.slice a2 n2 c2) cl0) := by
  have hz := infoZ
  have hp := places
  have hu := Try.underlying26
  rw [hu] at hp
  simp only [Option.map_some, Option.some.injEq] at hp
  cases hi : Try.prog.info? 26 with
  | none => rw [hi] at hz; cases hz
  | some i =>
    rw [hi] at hz
    simp only [Option.map_some, Option.some.injEq, Prod.mk.injEq] at hz
    unfold Program.built
    rw [hi, hu]
    simp only [hz.1, hp]
    have h1 := dcs_set (.slice none 0 0) (.slice none 0 0) (.slice a1 n1 c1) (.slice a2 n2 c2) cl0
    have hs := dz_size
    rw [← dz_is] at h1
    generalize dz = T at *
    simp [Instr.fill, Value.cells, hs]
    exact h1
/-- An automaton of one state. -/
def one (x : Int) : Df := ⟨[[x]], cl0, [3]⟩
theorem one_dfv {u : World} {a b c : Nat} {x : Int} (ha : Blk u a 3 #[.int .i64 x]) (hb : Blk u b 24 #[.slice (some ⟨a, 0, none⟩) 1 1]) (hc : Blk u c 3 #[.int .i64 3]) :
    dfv u (dcs (.slice (some ⟨b, 0, none⟩) 1 1) (.slice (some ⟨c, 0, none⟩) 1 1) cl0) (some ⟨b, 0, none⟩) 1 (some ⟨c, 0, none⟩) 1 (one x) := by
  refine ⟨rfl, cl0_len, by simp [one], by simp [one], fun i l h => ?_, fun i hi => ?_⟩
  · have hi : i < 1 := by have := (List.getElem?_eq_some_iff.1 h).1; simpa [one] using this
    obtain rfl : i = 0 := by omega
    obtain rfl : [x] = l := by simpa [one] using h
    refine ⟨b, 0, rfl, hb.lt, some ⟨a, 0, none⟩, 1, hb.cell 0, by simp, by simp, fun j hj => ?_⟩
    obtain rfl : j = 0 := by simp at hj; omega
    exact ⟨a, 0, rfl, ha.lt, ha.cell 0⟩
  · obtain rfl : i = 0 := by simp [one] at hi; omega
    exact ⟨c, 0, rfl, hc.lt, hc.cell 0⟩
theorem one_ok : okD (one 0) := ⟨by simp [one], by simp [one], rfl, cl0_len, fun x hx => by simp [one] at hx; omega, 1, clsQ_cl0, fun l hl => by
  obtain rfl : l = [0] := by simpa [one] using hl
  exact ⟨rfl, fun x hx => by simp at hx; simp [one]; omega⟩⟩
theorem one_bad : ¬ okD (one 1) := fun h => by
  obtain ⟨m, _, hr⟩ := h.row
  have := ((hr [1] (by simp [one])).2 1 (by simp)).2
  simp [one] at this
theorem one_gos {s : List Nat} (hs : ∀ c ∈ s, c < 256) : gos (one 0) 0 s = 0 := by
  have := one_ok.gos_lt s (p := 0) (by simp [one]) hs
  simp [one] at this
  exact this
theorem one_aft (s : ByteArray) : aftI (one 0) (nbs s) = 3 := by rw [aftI_yes one_ok, one_gos nbs_lt]; rfl
theorem one_run (s : ByteArray) : runI (one 0) (nbs s) = 0 := by rw [runI_yes one_ok, one_gos nbs_lt]; rfl
theorem one_stp : stpI (one 0) 1 97 = -1 := stpI_out (fun h => by have := h.2; simp [one] at this)
theorem one_lv : lv (one 0) 0 := .here (x := 3) rfl (by omega)
theorem one_ne : one 0 ≠ one 1 := fun h => by
  have : (one 0).nx = (one 1).nx := by rw [h]
  simp [one] at this
end Go.Proofs.Ytfipagndpoahlaa.Up
