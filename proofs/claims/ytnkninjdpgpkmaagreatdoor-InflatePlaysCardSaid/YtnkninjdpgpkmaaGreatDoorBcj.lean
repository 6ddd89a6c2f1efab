/-
  The law file's starts(): starts, of the reference's type; the reference's Starts of two equal lists.
  Conditions: as each theorem says.
-/
import Derived.Test.YtnkninjdpgpkmaaGreatDoorBbn
import Derived.Deep.AppendLies
import Derived.Deep.RegionLaw
import Derived.BigQuiet
import Derived.Deep.QuietTactic
import Derived.Laws.StructEq
namespace Go.Proofs.YtnkninjdpgpkmaaGreatDoor.Is
open Go.RowKit Go.Proofs.YtnkninjdpgpkmaaGreatDoor.Vm Go.Proofs.YtnkninjdpgpkmaaGreatDoor.Vo Go.Proofs.YtnkninjdpgpkmaaGreatDoor.Bw Go.Proofs.YtnkninjdpgpkmaaGreatDoor.Ib

/-- A row of the reference's starts of the call's own. -/
def rst (base : Nat) (w : World) (v : Value) (L : List (Nat × Nat)) : Prop := w.ownsRow base 80 2 v L.length (Ls L)
section
variable {w w' : World} {base : Nat} {v : Value} {L : List (Nat × Nat)}
theorem rst_nil (w : World) (base : Nat) : rst base w (.slice none 0 0) [] := World.ownsRow_nil _ _ _ _
theorem rst.only {S : Nat → Prop} (h : rst base w v L) (k : Only S w w') (hv : ∀ i, v.ownBlock = some i → ¬ S i) : rst base w' v L := own_only h k hv
theorem rst.below (h : rst base w v L) (k : Below w.heap.size w w') : rst base w' v L := h.only (S := fun _ => False) (Only.of_below k) (fun _ _ e => e)
theorem rst.form (h : rst base w v L) : ∃ A cap, v = .slice A L.length cap ∧ (0 < L.length → ∃ b, A = some ⟨b, 0, none⟩ ∧ b < w.heap.size) := by
  have h' := h
  rcases h.2 with ⟨rfl, h0⟩ | ⟨g, cap, cur, rfl, _⟩
  · exact ⟨none, 0, by rw [h0], fun e => by omega⟩
  · exact ⟨_, cap, rfl, fun _ => ⟨g, rfl, (World.ownsRow.lt h' g rfl).2⟩⟩
theorem rst.cell {b n cap : Nat} (h : rst base w (.slice (some ⟨b, 0, none⟩) n cap) L) {i : Nat} {x : Nat × Nat} (hx : L[i]? = some x) :
    w.cell? ⟨b, i * 2, none⟩ = some (.int .i64 (x.1 : Int)) ∧ w.cell? ⟨b, i * 2 + 1, none⟩ = some (.int .i64 (x.2 : Int)) := by
  have e : ∀ j, (⟨b, 0, none⟩ : Addr).add j = ⟨b, j, none⟩ := fun j => by unfold Addr.add; split <;> simp_all
  have g := Ls_get L i x hx
  have c := World.ownsRow.cells (g := b) h rfl
  have c1 := c _ _ g.1
  have c2 := c _ _ g.2
  rw [e] at c1 c2
  exact ⟨c1, c2⟩
theorem rst.lo (h : rst base w v L) : ∀ i, v.ownBlock = some i → base ≤ i ∧ i < w.heap.size := fun i hi => World.ownsRow.lt h i hi
end
theorem infoRs : (Tryz.prog.info? 80).map (fun i => (i.zero, i.size, i.bytes)) = some (some (.agg #[.int .i64 0, .int .i64 0]), 2, 16) := by kernel_rfl

set_option maxHeartbeats 1000000 in
set_option maxRecDepth 100000 in
theorem starts_any {b0 : Nat} {v : Value} {L : List (Nat × Nat)} {w : World} (h : strt b0 w v L) (hl : L.length ≤ 1000000) :
    Calls Tryz.prog 16 #[v] w fun e w' => ∃ v', e = .returned v' ∧ rst w.heap.size w' v' L ∧ Below w.heap.size w w' := by
  obtain ⟨A, cap, hv, hb⟩ := h.form
  subst hv
  obtain ⟨n, hn⟩ : ∃ n, n = L.length := ⟨_, rfl⟩
  have H : Hid (strt b0 w (.slice A n cap) L) := Lib.hid (by rw [hn]; exact h)
  have HN := Lib.hid hn
  rw [← hn]
  rw [← hn] at hl hb
  have HB := Lib.hid hb
  obtain ⟨i0, hi, hz0, hz1, hz2⟩ := info_parts infoRs
  clear h hn hb
  go_enter Tryz.func16, Tryz.ntmps16
  go_wp2
  go_loopw [3, 4] (fun s3 s4 wr => ∃ (j m c : Nat) (A' : Option Addr), s4 = .int .i64 (j : Int) ∧ s3 = .slice A' m c ∧ j ≤ n ∧ Hid (m = j) ∧ Hid (rst w.heap.size wr (.slice A' m c) (L.take j)) ∧ Hid (Below w.heap.size w wr)) (fun _ s4 _ => n - (intOf s4).toNat)
  case atStart => exact ⟨0, 0, 0, none, rfl, rfl, Nat.zero_le _, Lib.hid rfl, Lib.hid (by rw [List.take_zero]; exact rst_nil _ _), Lib.hid (Below.refl _ _)⟩
  case round =>
    obtain ⟨j, m, c, A', rfl, rfl, hj, HM, HR, HBW⟩ := hrel
    by_cases hjn : j < n
    · have hjn' : (j : Int) < (n : Int) := by omega
      have hj0 : (0 : Int) ≤ (j : Int) := by omega
      obtain ⟨bb, hA, hbb⟩ := HB.out (by omega)
      subst hA
      obtain ⟨x, hx⟩ : ∃ x, L[j]? = some x := ⟨_, List.getElem?_eq_getElem (by rw [← HN.out]; exact hjn)⟩
      obtain ⟨x1, x2⟩ := x
      have hc := (H.out.below HBW.out).cell hx
      have k0 : wr.cell? ⟨bb, j * 2, none⟩ = some (.int .i64 (x1 : Int)) := hc.1
      have k1 : wr.cell? ⟨bb, j * 2 + 1, none⟩ = some (.int .i64 (x2 : Int)) := hc.2
      have HX := Lib.hid hx
      have hlen : (L.take j).length = m := by rw [List.length_take, HM.out, ← HN.out]; omega
      have hO : wr.ownsRow w.heap.size 80 2 (.slice A' m c) m (Ls (L.take j)) := by
        have k := HR.out
        unfold rst at k
        rw [hlen] at k
        exact k
      have hbs := HBW.out.size
      clear hx hc hlen
      go_wp2
      go_region_law (refine step_append_lies _ (by rfl) _ _ _ (by rfl) w.heap.size 80 i0 _ 2 16 Tryz.underlying32 hi hz0 hz1 hz2 rfl (by omega) (.slice A' m c) m (Ls (L.take j)) (by rfl) ((hO.alloc _).drew) ⟨wr.heap.size, 0, none⟩ 1 1 [.int .i64 (x1 : Int), .int .i64 (x2 : Int)] (by rfl) (by rfl) (World.news_of_block (cs := #[.int .i64 (x1 : Int), .int .i64 (x2 : Int)]) (t := 80) (fr := (0, 0)) (heap_alloc_new _ _)) (by simp [Value.oneCell']) (by omega) (by have := HM.out; unfold maxLen; omega) (by have := HM.out; omega) (by simp; omega) (wr.heap.size + 1) (by simp) ?_; intro gg cap1 w5 hown1 hgrow hat hlt)
      all_goals
        have hn1 : L.take (j + 1) = L.take j ++ [(x1, x2)] := by
          rw [List.take_add_one, HX.out]
          rfl
        have K : Hid (rst w.heap.size w5 (.slice (some ⟨gg, 0, none⟩) (m + 1) cap1) (L.take (j + 1))) := Lib.hid (by
          have hlen : (L.take (j + 1)).length = m + 1 := by rw [List.length_take, HM.out, ← HN.out]; omega
          unfold rst
          rw [hlen, hn1, Ls_append]
          exact hown1)
        have KB : Hid (Below w.heap.size w w5) := Lib.hid ((HBW.out.alloc hbs _).drew.grown hgrow (by simp; omega) (fun q hq => (hO.lt q hq).1))
        clear hown1 hgrow hat hlt k0 k1 hO hn1
        go_wp2
        go_roundw
        case rel => exact ⟨j + 1, m + 1, cap1, _, by go_num, rfl, by omega, Lib.hid (by have := HM.out; omega), K, KB⟩
        case measure => simp [intOf]; omega
    · obtain rfl : j = n := by omega
      have hjn' : ¬ ((j : Int) < (j : Int)) := by omega
      go_wp2
      go_ret
      refine ⟨_, rfl, ?_, HBW.out⟩
      have k := HR.out
      rw [List.take_of_length_le (by rw [← HN.out]; exact Nat.le_refl _)] at k
      exact k

theorem neq_same (u : World) (a b : Int) : (binOp .neq 80 (.agg #[.int .i64 a, .int .i64 b]) (.agg #[.int .i64 a, .int .i64 b])).run Tryz.prog u = .ok (.bool false) u := by
  go_simp
set_option maxHeartbeats 1000000 in
set_option maxRecDepth 100000 in
theorem Starts_same {b1 b2 : Nat} {v1 v2 : Value} {L : List (Nat × Nat)} {w : World} (h1 : rst b1 w v1 L) (h2 : rst b2 w v2 L) (hl : L.length ≤ 1000000) :
    Calls Tryz.prog 15 #[v1, v2] w fun e w' => e = .returned (.bool true) ∧ Below w.heap.size w w' := by
  obtain ⟨A1, c1, hv1, hb1⟩ := h1.form
  obtain ⟨A2, c2, hv2, hb2⟩ := h2.form
  subst hv1; subst hv2
  obtain ⟨n, hn⟩ : ∃ n, n = L.length := ⟨_, rfl⟩
  have H1 : Hid (rst b1 w (.slice A1 n c1) L) := Lib.hid (by rw [hn]; exact h1)
  have H2 : Hid (rst b2 w (.slice A2 n c2) L) := Lib.hid (by rw [hn]; exact h2)
  have HN := Lib.hid hn
  rw [← hn]
  rw [← hn] at hl hb1 hb2
  have HB1 := Lib.hid hb1
  have HB2 := Lib.hid hb2
  clear h1 h2 hn hb1 hb2
  go_enter Tryz.func15, Tryz.ntmps15
  go_wp2
  go_loopw [5] (fun s5 wr => ∃ j : Nat, s5 = .int .i64 (j : Int) ∧ j ≤ n ∧ Hid (Below w.heap.size w wr)) (fun s5 _ => n - (intOf s5).toNat)
  case atStart => exact ⟨0, rfl, Nat.zero_le _, Lib.hid (Below.refl _ _)⟩
  case round =>
    obtain ⟨j, rfl, hj, HW⟩ := hrel
    by_cases hjn : j < n
    · have hjn' : (j : Int) < (n : Int) := by omega
      have hj0 : (0 : Int) ≤ (j : Int) := by omega
      obtain ⟨p1, hA1, _⟩ := HB1.out (by omega)
      obtain ⟨p2, hA2, _⟩ := HB2.out (by omega)
      subst hA1; subst hA2
      obtain ⟨x, hx⟩ : ∃ x, L[j]? = some x := ⟨_, List.getElem?_eq_getElem (by rw [← HN.out]; exact hjn)⟩
      obtain ⟨x1, x2⟩ := x
      have hd1 := (H1.out.below HW.out).cell hx
      have hd2 := (H2.out.below HW.out).cell hx
      have k0 : wr.cell? ⟨p1, j * 2, none⟩ = some (.int .i64 (x1 : Int)) := hd1.1
      have k1 : wr.cell? ⟨p1, j * 2 + 1, none⟩ = some (.int .i64 (x2 : Int)) := hd1.2
      have k2 : wr.cell? ⟨p2, j * 2, none⟩ = some (.int .i64 (x1 : Int)) := hd2.1
      have k3 : wr.cell? ⟨p2, j * 2 + 1, none⟩ = some (.int .i64 (x2 : Int)) := hd2.2
      have hq := neq_same wr x1 x2
      clear hd1 hd2 hx
      go_wp2
      go_quiet (fail)
      go_wp2
      go_roundw
      case rel => exact ⟨j + 1, by go_num, by omega, Lib.hid (grows HW.out (below_draws wr _))⟩
      case measure => simp [intOf]; omega
    · obtain rfl : j = n := by omega
      have hjn' : ¬ ((j : Int) < (j : Int)) := by omega
      go_wp2
      go_ret
      exact ⟨rfl, HW.out⟩
end Go.Proofs.YtnkninjdpgpkmaaGreatDoor.Is
