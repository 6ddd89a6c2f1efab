/-
  The packer's ops of a text: common, backs, best and Ops: their results.
  Ops of pack, called with any text: the ops in a row of the call's own.
  Conditions: as each theorem says.
-/
import Derived.Test.YtnkninjdpgpkmaaDoorQak
import Derived.Test.YtnkninjdpgpkmaaDoorQbj
import Derived.Test.YtnkninjdpgpkmaaDoorQaf
import Derived.BigQuiet
import Derived.Deep.QuietTactic
import Derived.Maps.AppendAt
namespace Go.Proofs.YtnkninjdpgpkmaaDoor.Ho
open Go.RowKit Go.Proofs.YtnkninjdpgpkmaaDoor.Vm Go.Proofs.YtnkninjdpgpkmaaDoor.Vo Go.Proofs.YtnkninjdpgpkmaaDoor.Bm Go.Proofs.YtnkninjdpgpkmaaDoor.Bw Go.Proofs.YtnkninjdpgpkmaaDoor.Na Go.Proofs.YtnkninjdpgpkmaaDoor.Ni Go.Proofs.YtnkninjdpgpkmaaDoor.Nc Go.Proofs.YtnkninjdpgpkmaaDoor.Nf Go.Proofs.YtnkninjdpgpkmaaDoor.Ke Go.Proofs.YtnkninjdpgpkmaaDoor.Gm Go.Proofs.YtnkninjdpgpkmaaDoor.Gr Go.Proofs.YtnkninjdpgpkmaaDoor.Gp Go.Proofs.YtnkninjdpgpkmaaDoor.Hm Go.Proofs.YtnkninjdpgpkmaaDoor.Gt Go.PlainAid

theorem sz (s : ByteArray) : s.data.toList.length = s.size := Array.length_toList
theorem bt_get (s : ByteArray) (i : Nat) (h : i < s.size) : s.data.toList[i]? = some (s[i]'h) := by
  rw [List.getElem?_eq_getElem (by rw [sz]; exact h)]; rfl
theorem bt_iff {s : ByteArray} {i j : Nat} (hi : i < s.size) (hj : j < s.size) : bt s i = bt s j ↔ s.data.toList[i]? = s.data.toList[j]? := by
  rw [bt_get s i hi, bt_get s j hj, ← get_bt s i hi, ← get_bt s j hj]
  constructor
  · intro h
    have h2 : (s[i]'hi).toNat = (s[j]'hj).toNat := by omega
    rw [UInt8.toNat_inj.1 h2]
  · intro h
    injection h with h
    rw [h]
theorem bt_at (s : ByteArray) {i : Nat} (h : i < s.size) : bt s i = ((s.data.toList.getD i 0).toNat : Int) ∧ s.data.toList[i]? = some (s.data.toList.getD i 0) := by
  have e : s.data.toList[i]? = some (s.data.toList.getD i 0) := by
    rw [List.getD_eq_getElem?_getD, List.getElem?_eq_getElem (by rw [sz]; exact h)]; rfl
  refine ⟨?_, e⟩
  have h2 := bt_get s i h
  rw [e] at h2
  injection h2 with h2
  rw [h2, get_bt s i h]

set_option maxHeartbeats 1000000 in
set_option maxRecDepth 100000 in
theorem common_any {s : ByteArray} {a d fr most : Nat} (hd : d ≤ a) (hfr : fr = a - d) (hm : most = min 258 (s.size - a)) (ha : a ≤ s.size) (hs : s.size ≤ 1000000000) (w : World) :
    Calls Tryd.prog 28 #[.string s, .int .i64 (fr : Int), .int .i64 (a : Int), .int .i64 (most : Int)] w fun e w' => e = .returned (.int .i64 (run s.data.toList a d : Nat)) ∧ Below w.heap.size w w' := by
  obtain ⟨R, hR⟩ : ∃ R, R = run s.data.toList a d := ⟨_, rfl⟩
  rw [← hR]
  have HR := Lib.hid hR
  have HFR := Lib.hid hfr
  have HM := Lib.hid hm
  have hml : most ≤ 258 ∧ a + most ≤ s.size := by omega
  have HD := Lib.hid hd
  clear hR hfr hm hd
  go_enter Tryd.func28, Tryd.ntmps28
  go_wp2
  go_loopw [9] (fun s9 wr => ∃ n : Nat, s9 = .int .i64 (n : Int) ∧ n ≤ most ∧ Hid (R = runF s.data.toList a d (258 - n) n) ∧ Hid (Below w.heap.size w wr)) (fun s9 _ => most - (intOf s9).toNat)
  case atStart => exact ⟨0, rfl, Nat.zero_le _, Lib.hid HR.out, Lib.hid (Below.refl _ _)⟩
  case round =>
    obtain ⟨n, rfl, hn, HN, HB⟩ := hrel
    by_cases hnm : n < most
    · obtain ⟨p, hp⟩ : ∃ p, p = fr + n := ⟨_, rfl⟩
      obtain ⟨q, hq⟩ : ∃ q, q = a + n := ⟨_, rfl⟩
      have hfa : fr ≤ a := by have := HFR.out; omega
      have e1 : IntKind.i64.wrap ((fr : Int) + (n : Int)) = (p : Int) := by rw [IntKind.wrap_i64]; omega
      have e2 : IntKind.i64.wrap ((a : Int) + (n : Int)) = (q : Int) := by rw [IntKind.wrap_i64]; omega
      have hnm' : (n : Int) < (most : Int) := by omega
      have p0 : (0 : Int) ≤ (p : Int) := by omega
      have q0 : (0 : Int) ≤ (q : Int) := by omega
      have p1 : (p : Int) < (s.size : Int) := by omega
      have q1 : (q : Int) < (s.size : Int) := by omega
      have hbe := bt_iff (s := s) (i := p) (j := q) (by omega) (by omega)
      have hb := get_bt s
      have HPQ : Hid (p = q - d ∧ q = a + n) := Lib.hid (by have := HFR.out; have := HD.out; omega)
      have HNM := Lib.hid hnm
      have HLA : Hid (a + n < s.data.toList.length) := Lib.hid (by rw [sz]; omega)
      have HML := Lib.hid hml
      clear hp hq hfa hnm
      by_cases hx : bt s p = bt s q
      · have hxb : (bt s p == bt s q) = true := by simp [hx]
        have HE := Lib.hid (hbe.1 hx)
        clear hx hbe
        go_wp2_with fail
        go_quiet (fail)
        clear e1 e2 hb hxb
        go_wp2
        go_roundw
        case rel =>
          refine ⟨n + 1, by go_num, by have := HNM.out; omega, Lib.hid ?_, Lib.hid (grows HB.out (below_draws _ _))⟩
          have h1 := HNM.out
          have h2 := HML.out
          rw [HN.out, show 258 - n = (258 - (n + 1)) + 1 by omega]
          exact runF_next ⟨HLA.out, by omega, by rw [← HPQ.out.2, ← HE.out, HPQ.out.1]⟩
        case measure => have := HNM.out; simp [intOf]; omega
      · have hxb : (bt s p == bt s q) = false := by simp [hx]
        have HE : Hid (¬ s.data.toList[p]? = s.data.toList[q]?) := Lib.hid (fun e => hx (hbe.2 e))
        clear hx hbe
        go_wp2_with fail
        go_quiet (fail)
        clear e1 e2 hb hxb
        go_wp2
        go_ret
        have e : R = n := by
          rw [HN.out]
          exact runF_stop (fun h => HE.out (by rw [HPQ.out.1, HPQ.out.2]; exact h.2.2.symm))
        exact ⟨by rw [e]; rfl, grows HB.out (below_draws _ _)⟩
    · have hnm' : ¬ (n : Int) < (most : Int) := by omega
      have hne : n = most := by omega
      have HE : Hid (R = n) := Lib.hid (by
        rw [HN.out]
        refine runF_stop (fun h => ?_)
        have h1 := HM.out
        have h2 := h.1
        rw [sz] at h2
        omega)
      have hnb : decide ((n : Int) < (most : Int)) = false := by simp; omega
      have hnbN : decide (n < most) = false := by simp; omega
      clear hnm hne
      go_wp2_with fail
      go_quiet (fail)
      go_wp2
      go_ret
      exact ⟨by rw [HE.out]; rfl, grows HB.out (below_draws _ _)⟩

/-- Cells of numbers of sixteen bits. -/
def arr16 (n : Nat) (f : Nat → Nat) : Array Value := Array.ofFn (n := n) fun i => .int .u16 (f i.val : Int)
theorem arr16_get {n : Nat} (f : Nat → Nat) {i : Nat} (h : i < n) : (arr16 n f)[i]? = some (.int .u16 (f i : Int)) := by simp [arr16, h]
theorem arr16_set (n : Nat) (f : Nat → Nat) (k v : Nat) : (arr16 n f).setIfInBounds k (.int .u16 (v : Int)) = arr16 n (fun i => if i = k then v else f i) := by
  apply Array.ext
  · simp [arr16]
  · intro i h1 h2
    have hi : i < (arr16 n f).size := by simpa using h1
    rw [Array.getElem_setIfInBounds hi]
    by_cases e : k = i
    · subst e; simp [arr16]
    · have e' : ¬ i = k := fun h => e h.symm
      simp [arr16, e, e']
theorem info16 : (Tryd.prog.info? 67).map (fun i => (i.zero, i.size, i.bytes)) = some (some (.int .u16 0), 1, 2) := by kernel_rfl
theorem made16 (n : Nat) (hn : n ≤ 1000000000) (u : World) : (Instr.makeSlice 42 (.int .i64 (n : Int)) (.int .i64 (n : Int))).run Tryd.prog u = .ok (.slice (some ⟨u.heap.size, 0, none⟩) n n) (u.alloc (.cells (arr16 n (fun _ => 0)) 67)) := by
  obtain ⟨i0, hi, hz0, hz1, hz2⟩ := info_parts info16
  have h := run_make (P := Tryd.prog) u 42 67 i0 (.int .u16 0) Tryd.underlying42 hi hz0 .i64 .i64 (n : Int) (n : Int) (by omega) (by omega) (by rw [hz2]; omega) (by omega)
  have e : madeCells (Value.int .u16 0).cells (n * i0.size) = arr16 n (fun _ => 0) := by
    rw [hz1]
    apply Array.ext
    · simp [madeCells, arr16]
    · intro j h1 h2
      simp [madeCells, arr16, Value.cells]
      simp [Nat.mod_one]
  simp only [Int.toNat_natCast, e] at h
  exact h
theorem info256 : (Tryd.prog.info? 66).map (fun i => (i.zero, i.size)) = some (some (.agg (Array.replicate 256 (.int .i64 0))), 256) := by kernel_rfl
/-- The row of distances in memory. -/
def bks (w : World) (b : Nat) (l : List UInt8) : Prop := ∃ F, Blk w b 67 (arr16 l.length F) ∧ ∀ j, j < l.length → isBk l j (F j)
theorem bks.below {w w' : World} {b : Nat} {l : List UInt8} (h : bks w b l) (k : Below w.heap.size w w') : bks w' b l := by
  obtain ⟨F, h1, h2⟩ := h
  exact ⟨F, h1.below k, h2⟩
set_option maxHeartbeats 2000000 in
set_option maxRecDepth 100000 in
theorem backs_any {s : ByteArray} (hs : s.size ≤ 1000000000) (w : World) :
    Calls Tryd.prog 15 #[.string s] w fun e w' => ∃ b, e = .returned (.slice (some ⟨b, 0, none⟩) s.size s.size) ∧ bks w' b s.data.toList ∧ Below w.heap.size w w' := by
  have hmk := made16 s.size hs
  obtain ⟨hz, hsz⟩ := zero_of_info info256
  rw [arr_zero] at hz
  obtain ⟨F0, hF0⟩ : ∃ F0, F0 = arr16 s.size (fun _ => 0) := ⟨_, rfl⟩
  obtain ⟨G0, hG0⟩ : ∃ G0, G0 = arr 256 (fun _ => 0) := ⟨_, rfl⟩
  rw [← hF0] at hmk
  rw [← hG0] at hz
  have HF0 := Lib.hid hF0
  have HG0 := Lib.hid hG0
  clear hF0 hG0 hsz
  go_enter Tryd.func15, Tryd.ntmps15
  go_wp2
  go_loopw [12] (fun s12 wr => ∃ (j : Nat) (F G : Nat → Nat), s12 = .int .i64 (j : Int) ∧ j ≤ s.size ∧ Hid (Blk wr w.heap.size 67 (arr16 s.size F)) ∧ Hid (Blk wr (w.heap.size + 1) 66 (arr 256 (fun i => (G i : Int)))) ∧ Hid (Below w.heap.size w wr) ∧ Hid ((∀ i, i < j → isBk s.data.toList i (F i)) ∧ (∀ i, j ≤ i → F i = 0) ∧ ∀ c : UInt8, isBe s.data.toList j c (G c.toNat))) (fun s12 _ => s.size - (intOf s12).toNat)
  case atStart =>
    have h2 := Blk.fresh (w.alloc (.cells F0 67)) 66 G0
    rw [size_alloc] at h2
    refine ⟨0, fun _ => 0, fun _ => 0, rfl, Nat.zero_le _, Lib.hid ?_, Lib.hid ?_, Lib.hid (grows (below_alloc _ _) (below_alloc _ _)), Lib.hid ⟨fun i h => absurd h (by omega), fun _ _ => rfl, fun c => isBe_zero _ c⟩⟩
    · rw [← HF0.out]; exact (Blk.fresh w _ _).below (below_alloc _ _)
    · have e : arr 256 (fun i => (((fun _ => 0 : Nat → Nat) i : Nat) : Int)) = G0 := by rw [HG0.out]; rfl
      rw [e]; exact h2
  case round =>
    obtain ⟨j, F, G, rfl, hj, HF, HG, HB, HI⟩ := hrel
    clear hz hmk
    by_cases hjn : j < s.size
    · have hjn' : (j : Int) < (s.size : Int) := by omega
      have hj0 : (0 : Int) ≤ (j : Int) := by omega
      obtain ⟨c, hc⟩ : ∃ c, c = s.data.toList.getD j 0 := ⟨_, rfl⟩
      have hbc := bt_at s hjn
      rw [← hc] at hbc
      obtain ⟨cn, hcn⟩ : ∃ cn, cn = c.toNat := ⟨_, rfl⟩
      have hbt : bt s j = (cn : Int) := by rw [hcn]; exact hbc.1
      have hc256 : cn < 256 := by rw [hcn]; exact c.toNat_lt
      obtain ⟨v, hv⟩ : ∃ v, v = G cn := ⟨_, rfl⟩
      have hbe := HI.out.2.2 c
      rw [← hcn, ← hv] at hbe
      have hvj := hbe.le
      obtain ⟨j1, hj1⟩ : ∃ j1, j1 = j + 1 := ⟨_, rfl⟩
      have e1 : IntKind.i64.wrap ((j : Int) + 1) = (j1 : Int) := by rw [IntKind.wrap_i64]; omega
      obtain ⟨dd, hdd⟩ : ∃ dd, dd = j1 - v := ⟨_, rfl⟩
      have e2 : IntKind.i64.wrap ((j1 : Int) - (v : Int)) = (dd : Int) := by rw [IntKind.wrap_i64]; omega
      have k1 : wr.cell? ⟨w.heap.size + 1, cn, none⟩ = some (.int .i64 (v : Int)) := (HG.out.cell cn).trans ((arr_get _ hc256).trans (by rw [hv]))
      have k0 : wr.cell? ⟨w.heap.size, j, none⟩ = some (.int .u16 (F j : Int)) := (HF.out.cell j).trans (arr16_get F hjn)
      have f0 : wr.frozen? ⟨w.heap.size, j, none⟩ = false := HF.out.frozen j
      have f1 : wr.frozen? ⟨w.heap.size + 1, cn, none⟩ = false := HG.out.frozen cn
      have hb := get_bt s
      have HJ := Lib.hid hjn
      have HJ1 := Lib.hid hj1
      have HDD := Lib.hid hdd
      have HV := Lib.hid hv
      have HCN := Lib.hid hcn
      have HBC := Lib.hid hbc.2
      have HBE := Lib.hid hbe
      have HBK := Lib.hid (isBk_of hbc.2 hbe)
      have HGS : ∀ u : World, Blk u (w.heap.size + 1) 66 (arr 256 (fun i => (G i : Int))) → Blk (u.setCell ⟨w.heap.size + 1, cn, none⟩ (.int .i64 (j1 : Int))) (w.heap.size + 1) 66 (arr 256 (fun i => ((if i = cn then j1 else G i : Nat) : Int))) := fun u h => by
        have h2 := h.store cn (.int .i64 (j1 : Int))
        rw [arr_set] at h2
        rw [arr_congr (g := fun i => ((if i = cn then j1 else G i : Nat) : Int)) (fun i _ => by split <;> rfl)] at h2
        exact h2
      have HGS := Lib.hid HGS
      have HIN : Hid (∀ c' : UInt8, isBe s.data.toList (j + 1) c' ((fun i => if i = cn then j1 else G i) c'.toNat)) := Lib.hid (fun c' => by
        dsimp only
        by_cases hcc : c'.toNat = cn
        · rw [if_pos hcc, HJ1.out]
          have : c' = c := UInt8.toNat_inj.1 (by rw [hcc, hcn])
          rw [this]; exact isBe_hit HBC.out
        · rw [if_neg hcc]
          refine isBe_miss (HI.out.2.2 c') (fun e => hcc ?_)
          rw [HBC.out] at e
          injection e with e
          rw [← e, hcn])
      clear hc hbc hcn hv hbe hj1 hdd hjn
      by_cases hA : 0 < v ∧ dd ≤ 256
      · have a1 : (0 : Int) < (v : Int) := by omega
        have a2 : (dd : Int) ≤ 256 := by omega
        have hcv : IntKind.u16.wrap (dd : Int) = (dd : Int) := by rw [IntKind.wrap_u16]; omega
        have k1' : (wr.setCell ⟨w.heap.size, j, none⟩ (.int .u16 (dd : Int))).cell? ⟨w.heap.size + 1, cn, none⟩ = some (.int .i64 (v : Int)) := ((HG.out.apartStore (by simp)).cell cn).trans ((arr_get _ hc256).trans (by rw [HV.out]))
        have f1' : (wr.setCell ⟨w.heap.size, j, none⟩ (.int .u16 (dd : Int))).frozen? ⟨w.heap.size + 1, cn, none⟩ = false := (HG.out.apartStore (by simp)).frozen cn
        have HF2 := Lib.hid (HF.out.store j (.int .u16 (dd : Int)))
        rw [arr16_set] at HF2
        have HAA := Lib.hid hA
        clear hA
        go_wp2
        go_roundw
        case rel =>
          refine ⟨j + 1, fun i => if i = j then dd else F i, fun i => if i = cn then j1 else G i, by rw [HJ1.out], by have := HJ.out; omega, Lib.hid (HF2.out.apartStore (by simp)), Lib.hid (HGS.out _ (HG.out.apartStore (by simp))), Lib.hid ((HB.out.setCell (by simp) _).setCell (by simp) _), Lib.hid ⟨fun i hi => ?_, fun i hi => ?_, HIN.out⟩⟩
          · dsimp only
            by_cases hij : i = j
            · subst hij
              rw [if_pos rfl]
              have h1 := HBK.out
              rw [← HJ1.out, ← HDD.out, if_pos HAA.out] at h1
              exact h1
            · rw [if_neg hij]; exact HI.out.1 i (by omega)
          · dsimp only
            rw [if_neg (by omega)]; exact HI.out.2.1 i (by omega)
        case measure => have h1 := HJ.out; have h2 := HJ1.out; simp [intOf]; omega
      · have HAA := Lib.hid hA
        have HFN : Hid ((∀ i, i < j + 1 → isBk s.data.toList i (F i)) ∧ ∀ i, j + 1 ≤ i → F i = 0) := Lib.hid ⟨fun i hi => by
          by_cases hij : i = j
          · subst hij
            have h1 := HBK.out
            rw [← HJ1.out, ← HDD.out, if_neg HAA.out] at h1
            rw [HI.out.2.1 i (Nat.le_refl _)]
            exact h1
          · exact HI.out.1 i (by omega), fun i hi => HI.out.2.1 i (by omega)⟩
        rcases (show (v = 0) ∨ (0 < v ∧ ¬ dd ≤ 256) by omega) with h0 | ⟨h0, h1⟩
        · have a1 : ¬ (0 : Int) < (v : Int) := by omega
          clear hA h0
          go_wp2
          go_roundw
          case rel => exact ⟨j + 1, F, fun i => if i = cn then j1 else G i, by rw [HJ1.out], by have := HJ.out; omega, Lib.hid (HF.out.apartStore (by simp)), Lib.hid (HGS.out _ HG.out), Lib.hid (HB.out.setCell (by simp) _), Lib.hid ⟨HFN.out.1, HFN.out.2, HIN.out⟩⟩
          case measure => have h1 := HJ.out; have h2 := HJ1.out; simp [intOf]; omega
        · have a1 : (0 : Int) < (v : Int) := by omega
          have a2 : ¬ (dd : Int) ≤ 256 := by omega
          clear hA h0 h1
          go_wp2
          go_roundw
          case rel => exact ⟨j + 1, F, fun i => if i = cn then j1 else G i, by rw [HJ1.out], by have := HJ.out; omega, Lib.hid (HF.out.apartStore (by simp)), Lib.hid (HGS.out _ HG.out), Lib.hid (HB.out.setCell (by simp) _), Lib.hid ⟨HFN.out.1, HFN.out.2, HIN.out⟩⟩
          case measure => have h1 := HJ.out; have h2 := HJ1.out; simp [intOf]; omega
    · have hjn' : ¬ (j : Int) < (s.size : Int) := by omega
      have hje : j = s.size := by omega
      have HJE := Lib.hid hje
      clear hjn hje
      go_wp2
      go_ret
      exact ⟨_, rfl, ⟨F, by rw [sz]; exact HF.out, fun i hi => HI.out.1 i (by rw [sz] at hi; rw [HJE.out]; exact hi)⟩, HB.out⟩

theorem sizeOp : (Tryd.prog.info? 41).map (·.size) = some 3 := by kernel_rfl
theorem one3 (x n d : Int) : (#[.int .u8 x, .int .i64 n, .int .i64 d] : Array Value).all (·.oneCell') = true := by simp [Value.oneCell']
/-- An op's cells. -/
def oc (o : Opx) : Array Value := #[.int .u8 (o.x.toNat : Int), .int .i64 (o.n : Int), .int .i64 (o.d : Int)]
theorem oc_eq {x n d : Int} {o : Opx} (h1 : x = (o.x.toNat : Int)) (h2 : n = (o.n : Int)) (h3 : d = (o.d : Int)) : (#[.int .u8 x, .int .i64 n, .int .i64 d] : Array Value) = oc o := by subst h1; subst h2; subst h3; rfl
theorem bo_next {l : List UInt8} {a d v : Nat} {x : UInt8} {nr : Nat} (hn : best l a (d + v) = if (best l a d).1 < nr then (nr, d + v) else best l a d) :
    bo x (best l a (d + v)) = if 3 ≤ nr ∧ (bo x (best l a d)).n < nr then ⟨0, nr, d + v⟩ else bo x (best l a d) := by
  rw [bo_n, hn]
  by_cases h : (best l a d).1 < nr
  · rw [if_pos h]
    by_cases h3 : 3 ≤ nr
    · rw [if_pos ⟨h3, by split <;> omega⟩]
      unfold bo; rw [if_pos h3]
    · rw [if_neg (fun e => h3 e.1)]
      unfold bo; rw [if_neg h3, if_neg (by omega)]
  · rw [if_neg h, if_neg (fun e => by
      have := e.2
      by_cases h4 : 3 ≤ (best l a d).1
      · rw [if_pos h4] at this; omega
      · omega)]
set_option maxHeartbeats 2000000 in
set_option maxRecDepth 100000 in
theorem best_any {s : ByteArray} {b a : Nat} {w : World} (hs : s.size ≤ 1000000000) (hb : bks w b s.data.toList) (ha : a < s.size) :
    Calls Tryd.prog 16 #[.string s, .slice (some ⟨b, 0, none⟩) s.size s.size, .int .i64 (a : Int)] w fun e w' => e = .returned (.agg (oc (bo (s.data.toList.getD a 0) (best s.data.toList a (min 256 a))))) ∧ Below w.heap.size w w' := by
  obtain ⟨l, hl⟩ : ∃ l, l = s.data.toList := ⟨_, rfl⟩
  have hsl : l.length = s.size := by rw [hl]; exact sz s
  rw [← hl] at hb ⊢
  obtain ⟨O, hO⟩ : ∃ O, O = bo (l.getD a 0) (best l a (min 256 a)) := ⟨_, rfl⟩
  rw [← hO]
  have HO := Lib.hid hO
  obtain ⟨c, hc⟩ : ∃ c, c = l.getD a 0 := ⟨_, rfl⟩
  obtain ⟨cn, hcn⟩ : ∃ cn : Int, cn = (c.toNat : Int) := ⟨_, rfl⟩
  have hbt : bt s a = cn := by rw [hcn, hc, hl]; exact (bt_at s ha).1
  have HC := Lib.hid hc
  have HCN := Lib.hid hcn
  have HL := Lib.hid hl
  have HSL := Lib.hid hsl
  obtain ⟨F, hF, hBK⟩ := hb
  have HF := Lib.hid hF
  have HBK := Lib.hid hBK
  obtain ⟨w2, hw2⟩ : ∃ w2, w2 = (w.alloc (.cells #[.int .u8 0, .int .i64 0, .int .i64 0] 41)).alloc (.cells #[.int .u8 cn, .int .i64 0, .int .i64 0] 41) := ⟨_, rfl⟩
  obtain ⟨Z, hZ⟩ : ∃ Z, Z = w.heap.size := ⟨_, rfl⟩
  have B2 : Hid (Below w.heap.size w w2) := Lib.hid (by rw [hw2]; exact grows (below_alloc _ _) (below_alloc _ _))
  have KR : Hid (Blk w2 Z 41 #[.int .u8 0, .int .i64 0, .int .i64 0]) := Lib.hid (by rw [hw2, hZ]; exact (Blk.fresh _ _ _).below (below_alloc _ _))
  have KF : Hid (Blk w2 (Z + 1) 41 #[.int .u8 cn, .int .i64 0, .int .i64 0]) := Lib.hid (by
    rw [hw2, hZ]
    have := Blk.fresh (w.alloc (.cells #[.int .u8 0, .int .i64 0, .int .i64 0] 41)) 41 #[.int .u8 cn, .int .i64 0, .int .i64 0]
    rw [size_alloc] at this
    exact this)
  have HZ : Hid (Z = w.heap.size) := Lib.hid hZ
  have ha' : (a : Int) < (s.size : Int) := by omega
  have ha0 : (0 : Int) ≤ (a : Int) := by omega
  obtain ⟨most, hm⟩ : ∃ most, most = min 258 (s.size - a) := ⟨_, rfl⟩
  obtain ⟨df, hdf⟩ : ∃ df, df = s.size - a := ⟨_, rfl⟩
  have hsub : IntKind.i64.wrap ((s.size : Int) - (a : Int)) = (df : Int) := by rw [IntKind.wrap_i64]; omega
  have hmin : min 258 (df : Int) = (most : Int) := by omega
  have HM := Lib.hid hm
  have HA := Lib.hid ha
  have hgb := get_bt s
  clear hO hc hcn hl hsl hF hBK hm hdf ha
  go_enter Tryd.func16, Tryd.ntmps16
  go_wp2
  rw [← hw2, ← hZ]
  clear hw2 hZ hgb hbt hsub hmin
  go_loopw [9] (fun s9 wr => ∃ (d fr : Nat) (x n e : Int), s9 = .int .i64 (fr : Int) ∧ Hid (fr = a - d) ∧ Hid (Hm.way l a d) ∧ Hid (Blk wr Z 41 #[.int .u8 0, .int .i64 0, .int .i64 0]) ∧ Hid (Blk wr (Z + 1) 41 #[.int .u8 x, .int .i64 n, .int .i64 e]) ∧ Hid (x = ((bo c (best l a d)).x.toNat : Int) ∧ n = ((bo c (best l a d)).n : Int) ∧ e = ((bo c (best l a d)).d : Int)) ∧ Hid (Below w.heap.size w wr)) (fun s9 _ => (intOf s9).toNat)
  case atStart => exact ⟨0, a, cn, 0, 0, rfl, Lib.hid rfl, Lib.hid (way_start (by rw [HSL.out]; exact HA.out)), KR, KF, Lib.hid ⟨HCN.out, rfl, rfl⟩, B2⟩
  case round =>
    obtain ⟨d, fr, x, n, e, rfl, HFR, HW, HR, HQ, HX, HB⟩ := hrel
    have hfs : fr < s.size := by have h1 := HFR.out; have h2 := HA.out; omega
    have f0 : (0 : Int) ≤ (fr : Int) := by omega
    have f1 : (fr : Int) < (s.size : Int) := by omega
    have HFK := Lib.hid (HF.out.below HB.out)
    obtain ⟨v, hv⟩ : ∃ v, v = F fr := ⟨_, rfl⟩
    have k0 : wr.cell? ⟨b, fr, none⟩ = some (.int .u16 (v : Int)) := (HFK.out.cell fr).trans ((arr16_get F (by rw [HSL.out]; exact hfs)).trans (by rw [hv]))
    have q0 : wr.cell? ⟨Z + 1, 0, none⟩ = some (.int .u8 x) := HQ.out.cell 0
    have q1 : wr.cell? ⟨Z + 1, 1, none⟩ = some (.int .i64 n) := HQ.out.cell 1
    have q2 : wr.cell? ⟨Z + 1, 2, none⟩ = some (.int .i64 e) := HQ.out.cell 2
    have HV : Hid (isBk l (a - d) v) := Lib.hid (by rw [hv, ← HFR.out]; exact HBK.out fr (by rw [HSL.out]; exact hfs))
    have hv256 : v ≤ fr ∧ v ≤ 256 := by
      by_cases h0 : v = 0
      · omega
      · have h1 := HV.out.yes (by omega); have h2 := HFR.out; omega
    clear hv
    by_cases h0 : v = 0
    · subst h0
      have HEND : Hid (O = bo c (best l a d)) := Lib.hid (by rw [HO.out, ← HC.out, way_none HW.out HV.out])
      clear hfs hv256
      go_wp2_with (first | (refine wpList_load_row rfl 41 _ rfl (Z + 1) rfl _ _ _ _ HQ.out Tryd.underlying41 rfl sizeOp ?_) | (refine wpList_store_row rfl 41 _ _ rfl Z #[.int .u8 x, .int .i64 n, .int .i64 e] rfl rfl _ _ HR.out sizeOp rfl (one3 _ _ _) ?_))
      refine bodyPost_ret (v := .agg #[.int .u8 x, .int .i64 n, .int .i64 e]) (results_cell_row rfl _ _ Z 41 _ _ _ rfl (setRow_heap _ _ _ _ _ _ HR.out) Tryd.underlying41 rfl sizeOp) rfl ?_
      exact ⟨by rw [oc_eq HX.out.1 HX.out.2.1 HX.out.2.2, ← HEND.out], (only_row (S := fun i => i = Z) (Only.refl _ _) rfl _).below HB.out HB.out.size (fun i hi => by rw [hi, HZ.out]; exact Nat.le_refl _)⟩
    · have hv0 : (0 : Int) < (v : Int) := by omega
      have HV0 := Lib.hid h0
      by_cases h1 : n < (most : Int)
      · obtain ⟨fr', hfr'⟩ : ∃ fr', fr' = fr - v := ⟨_, rfl⟩
        obtain ⟨d', hd'⟩ : ∃ d', d' = d + v := ⟨_, rfl⟩
        have hdd := HW.out.hd
        have hfe := HFR.out
        have hcv : IntKind.i64.wrap (v : Int) = (v : Int) := by rw [IntKind.wrap_i64]; omega
        have e1 : IntKind.i64.wrap ((fr : Int) - (v : Int)) = (fr' : Int) := by rw [IntKind.wrap_i64]; omega
        have e2 : IntKind.i64.wrap ((a : Int) - (fr' : Int)) = (d' : Int) := by rw [IntKind.wrap_i64]; omega
        have hfr2 : fr' = a - d' := by omega
        have hd'a : d' ≤ a := by omega
        have HFR' := Lib.hid hfr'
        have HD' := Lib.hid hd'
        have HFA := Lib.hid hfr2
        clear h0 hfr' hd' hdd hfe hfr2
        by_cases h2 : 256 < d'
        · have h2' : (256 : Int) < (d' : Int) := by omega
          have HEND : Hid (O = bo c (best l a d)) := Lib.hid (by rw [HO.out, ← HC.out, way_far HW.out HV.out (by rw [← HD'.out]; exact h2)])
          clear hfs hv256 h2
          go_wp2_with (first | (refine wpList_load_row rfl 41 _ rfl (Z + 1) rfl _ _ _ _ HQ.out Tryd.underlying41 rfl sizeOp ?_) | (refine wpList_store_row rfl 41 _ _ rfl Z #[.int .u8 x, .int .i64 n, .int .i64 e] rfl rfl _ _ HR.out sizeOp rfl (one3 _ _ _) ?_))
          refine bodyPost_ret (v := .agg #[.int .u8 x, .int .i64 n, .int .i64 e]) (results_cell_row rfl _ _ Z 41 _ _ _ rfl (setRow_heap _ _ _ _ _ _ HR.out) Tryd.underlying41 rfl sizeOp) rfl ?_
          exact ⟨by rw [oc_eq HX.out.1 HX.out.2.1 HX.out.2.2, ← HEND.out], (only_row (S := fun i => i = Z) (Only.refl _ _) rfl _).below HB.out HB.out.size (fun i hi => by rw [hi, HZ.out]; exact Nat.le_refl _)⟩
        · have h2' : ¬ (256 : Int) < (d' : Int) := by omega
          have HCM := Lib.hid (common_any (s := s) (a := a) (d := d') (fr := fr') (most := most) hd'a HFA.out HM.out (Nat.le_of_lt HA.out) hs wr)
          obtain ⟨nr, hnr⟩ : ∃ nr, nr = run s.data.toList a d' := ⟨_, rfl⟩
          rw [← hnr] at HCM
          obtain ⟨W1, W2⟩ := way_next HW.out HV.out (by have := HV0.out; omega) (by rw [← HD'.out]; omega)
          have HW1 := Lib.hid W1
          have HBN : Hid (bo c (best l a d') = if 3 ≤ nr ∧ (bo c (best l a d)).n < nr then ⟨0, nr, d'⟩ else bo c (best l a d)) := Lib.hid (by
            rw [HD'.out]
            rw [← HL.out, HD'.out] at hnr
            exact bo_next (by rw [W2, ← hnr]))
          rw [← HD'.out] at HW1
          have hnn : n = ((bo c (best l a d)).n : Int) := HX.out.2.1
          obtain ⟨m, hmm⟩ : ∃ m, m = (bo c (best l a d)).n := ⟨_, rfl⟩
          rw [← hmm] at hnn HBN
          subst hnn
          have HLT : Hid (fr' < fr) := Lib.hid (by have h3 := HFR'.out; have h4 := HV0.out; omega)
          clear W1 W2 hnr hmm h2
          go_wp2_with fail
          refine HCM.out.mono ?_
          rintro e' w5 ⟨rfl, b5⟩
          have HQ5 := Lib.hid (HQ.out.below b5)
          have HR5 := Lib.hid (HR.out.below b5)
          have HB5 := Lib.hid (grows HB.out b5)
          have q1' : w5.cell? ⟨Z + 1, 1, none⟩ = some (.int .i64 (m : Int)) := HQ5.out.cell 1
          clear b5 k0 q0 q1 q2
          by_cases h3 : 3 ≤ nr ∧ m < nr
          · have h3' : ¬ (nr : Int) < 3 := by omega
            have h4' : (m : Int) < (nr : Int) := by omega
            have HBE : Hid (bo c (best l a d') = ⟨0, nr, d'⟩) := Lib.hid (by rw [HBN.out, if_pos h3])
            clear h3
            have g0 : w5.cell? ⟨Z + 1, 0, none⟩ = some (.int .u8 x) := HQ5.out.cell 0
            have g2 : w5.cell? ⟨Z + 1, 2, none⟩ = some (.int .i64 e) := HQ5.out.cell 2
            have y0 : w5.frozen? ⟨Z + 1, 0, none⟩ = false := HQ5.out.frozen 0
            have y1 : w5.frozen? ⟨Z + 1, 1, none⟩ = false := HQ5.out.frozen 1
            have y2 : w5.frozen? ⟨Z + 1, 2, none⟩ = false := HQ5.out.frozen 2
            have HS5 : Hid (Blk (((w5.setCell ⟨Z + 1, 0, none⟩ (.int .u8 0)).setCell ⟨Z + 1, 1, none⟩ (.int .i64 (nr : Int))).setCell ⟨Z + 1, 2, none⟩ (.int .i64 (d' : Int))) (Z + 1) 41 #[.int .u8 0, .int .i64 (nr : Int), .int .i64 (d' : Int)] ∧ Only (fun i => i = Z + 1) w5 (((w5.setCell ⟨Z + 1, 0, none⟩ (.int .u8 0)).setCell ⟨Z + 1, 1, none⟩ (.int .i64 (nr : Int))).setCell ⟨Z + 1, 2, none⟩ (.int .i64 (d' : Int)))) := Lib.hid ⟨((HQ5.out.store 0 (.int .u8 0)).store 1 (.int .i64 (nr : Int))).store 2 (.int .i64 (d' : Int)), (((Only.refl (fun i => i = Z + 1) w5).store (p := ⟨Z + 1, 0, none⟩) (.inl rfl) _).store (p := ⟨Z + 1, 1, none⟩) (.inl rfl) _).store (p := ⟨Z + 1, 2, none⟩) (.inl rfl) _⟩
            go_wp2
            go_roundw
            case rel => exact ⟨d', fr', 0, (nr : Int), (d' : Int), by first | rfl | rw [e1], HFA, HW1, Lib.hid (HR5.out.only HS5.out.2 (by omega)), Lib.hid HS5.out.1, Lib.hid (by rw [HBE.out]; exact ⟨rfl, rfl, rfl⟩), Lib.hid (HS5.out.2.below HB5.out HB5.out.size (fun i hi => by have h9 := HZ.out; omega))⟩
            case measure => have h9 := HLT.out; simp [intOf]; omega
          · have HBE : Hid (bo c (best l a d') = bo c (best l a d)) := Lib.hid (by rw [HBN.out, if_neg h3])
            have HXN : Hid (x = ((bo c (best l a d')).x.toNat : Int) ∧ (m : Int) = ((bo c (best l a d')).n : Int) ∧ e = ((bo c (best l a d')).d : Int)) := Lib.hid (by rw [HBE.out]; exact HX.out)
            rcases (show nr < 3 ∨ (¬ nr < 3 ∧ ¬ m < nr) by omega) with h4 | ⟨h4, h5⟩
            · have h3' : (nr : Int) < 3 := by omega
              clear h3 h4
              go_wp2
              go_roundw
              case rel => exact ⟨d', fr', x, (m : Int), e, by first | rfl | rw [e1], HFA, HW1, HR5, HQ5, HXN, HB5⟩
              case measure => have h9 := HLT.out; simp [intOf]; omega
            · have h3' : ¬ (nr : Int) < 3 := by omega
              have h4' : ¬ (m : Int) < (nr : Int) := by omega
              clear h3 h4 h5
              go_wp2
              go_roundw
              case rel => exact ⟨d', fr', x, (m : Int), e, by first | rfl | rw [e1], HFA, HW1, HR5, HQ5, HXN, HB5⟩
              case measure => have h9 := HLT.out; simp [intOf]; omega
      · have HEND : Hid (O = bo c (best l a d)) := Lib.hid (by
          rw [HO.out, ← HC.out, way_full HW.out ?_]
          have h2 := HX.out.2.1
          have h3 := bo_n c (best l a d)
          have h4 := HM.out
          have h5 := HA.out
          rw [HSL.out, ← h4]
          by_cases h6 : 3 ≤ (best l a d).1
          · rw [if_pos h6] at h3; omega
          · rw [if_neg h6] at h3; omega)
        clear hfs hv256 h0
        go_wp2_with (first | (refine wpList_load_row rfl 41 _ rfl (Z + 1) rfl _ _ _ _ HQ.out Tryd.underlying41 rfl sizeOp ?_) | (refine wpList_store_row rfl 41 _ _ rfl Z #[.int .u8 x, .int .i64 n, .int .i64 e] rfl rfl _ _ HR.out sizeOp rfl (one3 _ _ _) ?_))
        refine bodyPost_ret (v := .agg #[.int .u8 x, .int .i64 n, .int .i64 e]) (results_cell_row rfl _ _ Z 41 _ _ _ rfl (setRow_heap _ _ _ _ _ _ HR.out) Tryd.underlying41 rfl sizeOp) rfl ?_
        exact ⟨by rw [oc_eq HX.out.1 HX.out.2.1 HX.out.2.2, ← HEND.out], (only_row (S := fun i => i = Z) (Only.refl _ _) rfl _).below HB.out HB.out.size (fun i hi => by rw [hi, HZ.out]; exact Nat.le_refl _)⟩

end Go.Proofs.YtnkninjdpgpkmaaDoor.Ho
namespace Go.Proofs.YtnkninjdpgpkmaaDoor.Hp
open Go.RowKit Go.Proofs.YtnkninjdpgpkmaaDoor.Vm Go.Proofs.YtnkninjdpgpkmaaDoor.Vo Go.Proofs.YtnkninjdpgpkmaaDoor.Bm Go.Proofs.YtnkninjdpgpkmaaDoor.Bw Go.Proofs.YtnkninjdpgpkmaaDoor.Na Go.Proofs.YtnkninjdpgpkmaaDoor.Gm Go.Proofs.YtnkninjdpgpkmaaDoor.Gr Go.Proofs.YtnkninjdpgpkmaaDoor.Gp Go.Proofs.YtnkninjdpgpkmaaDoor.Hm Go.Proofs.YtnkninjdpgpkmaaDoor.Gt Go.Proofs.YtnkninjdpgpkmaaDoor.Ho

/-- The cells of ops. -/
def Oc (L : List Opx) : List Value := L.flatMap (fun o => (oc o).toList)
theorem Oc_cons (o : Opx) (L : List Opx) : Oc (o :: L) = .int .u8 (o.x.toNat : Int) :: .int .i64 (o.n : Int) :: .int .i64 (o.d : Int) :: Oc L := rfl
theorem Oc_snoc (L : List Opx) (o : Opx) : Oc (L ++ [o]) = Oc L ++ (oc o).toList := by simp [Oc]
theorem Oc_get : ∀ (L : List Opx) (i : Nat) (o : Opx), L[i]? = some o → (Oc L)[i * 3]? = some (.int .u8 (o.x.toNat : Int)) ∧ (Oc L)[i * 3 + 1]? = some (.int .i64 (o.n : Int)) ∧ (Oc L)[i * 3 + 2]? = some (.int .i64 (o.d : Int))
  | [], _, _, h => by simp at h
  | y :: L, 0, o, h => by
    simp at h
    subst h
    exact ⟨rfl, rfl, rfl⟩
  | y :: L, i + 1, o, h => by
    rw [List.getElem?_cons_succ] at h
    obtain ⟨h1, h2, h3⟩ := Oc_get L i o h
    rw [Oc_cons, show (i + 1) * 3 = i * 3 + 1 + 1 + 1 by omega]
    simp only [List.getElem?_cons_succ]
    exact ⟨h1, h2, h3⟩
/-- A row of ops of the call's own. -/
def opo (base : Nat) (w : World) (v : Value) (L : List Opx) : Prop := w.ownsRow base 41 3 v L.length (Oc L)
theorem opo_nil (w : World) (base : Nat) : opo base w (.slice none 0 0) [] := World.ownsRow_nil _ _ _ _
section
variable {w w' : World} {base : Nat} {v : Value} {L : List Opx}
theorem opo.only {S : Nat → Prop} (h : opo base w v L) (k : Only S w w') (hv : ∀ i, v.ownBlock = some i → ¬ S i) : opo base w' v L := own_only h k hv
theorem opo.below (h : opo base w v L) (k : Below w.heap.size w w') : opo base w' v L := h.only (S := fun _ => False) (Only.of_below k) (fun _ _ e => e)
theorem opo.form (h : opo base w v L) : ∃ A cap, v = .slice A L.length cap := by
  rcases h.2 with ⟨rfl, h0⟩ | ⟨g, cap, _, rfl, _⟩
  · exact ⟨none, 0, by rw [h0]⟩
  · exact ⟨_, cap, rfl⟩
theorem opo.lo (h : opo base w v L) : ∀ i, v.ownBlock = some i → base ≤ i ∧ i < w.heap.size := fun i hi => World.ownsRow.lt h i hi
/-- Read as ops that come. -/
theorem opo.read {A : Option Addr} {n cap : Nat} (h : opo base w (.slice A n cap) L) (hb : ∀ o ∈ L, o.n ≤ 1000000000 ∧ o.d ≤ 1000000000) : opr w A (L.map Opx.int) := by
  intro i o hi
  rw [List.getElem?_map] at hi
  obtain ⟨x, hx, rfl⟩ := Option.map_eq_some_iff.1 hi
  obtain ⟨h1, h2⟩ := hb x (List.mem_of_getElem? hx)
  refine ⟨⟨by show -9223372036854775808 ≤ (x.n : Int); omega, by show (x.n : Int) ≤ _; omega⟩, ⟨by show -9223372036854775808 ≤ (x.d : Int); omega, by show (x.d : Int) ≤ _; omega⟩, ?_⟩
  rcases h.2 with ⟨e0, h0⟩ | ⟨g, c, cur, e1, hbl, hh, _⟩
  · have := (List.getElem?_eq_some_iff.1 hx).1
    omega
  · injection e1 with e1 _ _
    have e : ∀ j, (⟨g, 0, none⟩ : Addr).add j = ⟨g, j, none⟩ := fun j => by unfold Addr.add; split <;> simp_all
    have c := World.ownsRow.cells (g := g) h (by rw [e1]; rfl)
    obtain ⟨g1, g2, g3⟩ := Oc_get L i x hx
    have c1 := c _ _ g1
    have c2 := c _ _ g2
    have c3 := c _ _ g3
    rw [e] at c1 c2 c3
    refine ⟨g, 0, e1, (World.ownsRow.lt h g (by rw [e1]; rfl)).2, ?_, ?_, ?_⟩
    · rw [Nat.zero_add]; exact c1
    · rw [Nat.zero_add]; exact c2
    · rw [Nat.zero_add]; exact c3
end
theorem infoOp : (Tryd.prog.info? 41).map (fun i => (i.zero, i.size, i.bytes)) = some (some (.agg #[.int .u8 0, .int .i64 0, .int .i64 0]), 3, 24) := by kernel_rfl
theorem one_cells (w : World) (x n d : Int) (e : TypeId) : ∀ (j : Nat) (u : Value), ([.int .u8 x, .int .i64 n, .int .i64 d] : List Value)[j]? = some u → (w.alloc (.cells #[.int .u8 x, .int .i64 n, .int .i64 d] e)).cell? ((⟨w.heap.size, 0, none⟩ : Addr).add j) = some u := by
  intro j u hu
  rw [Go.WideShapes.add_plain, Nat.zero_add, Blk.cell (Blk.fresh w e _) j, ← hu]
  simp
theorem one_one (x n d : Int) : ∀ u ∈ ([.int .u8 x, .int .i64 n, .int .i64 d] : List Value), u.oneCell' = true := by
  intro u hu
  simp at hu
  rcases hu with rfl | rfl | rfl <;> rfl
theorem bo_le {l : List UInt8} {a : Nat} (ha : a ≤ l.length) (x : UInt8) : (bo x (best l a (min 256 a))).n ≤ 258 ∧ (bo x (best l a (min 256 a))).d ≤ 256 ∧ a + (bo x (best l a (min 256 a))).n ≤ l.length := by
  obtain ⟨h1, h2, h3, _⟩ := best_facts ha (min 256 a)
  unfold bo
  by_cases h : 3 ≤ (best l a (min 256 a)).1
  · rw [if_pos h]
    have := h3 (by omega)
    exact ⟨h1, by show (best l a (min 256 a)).2 ≤ 256; omega, h2⟩
  · rw [if_neg h]
    exact ⟨by show 0 ≤ 258; omega, by show 0 ≤ 256; omega, by show a + 0 ≤ l.length; omega⟩
set_option maxHeartbeats 2000000 in
set_option maxRecDepth 100000 in
theorem Ops_any {s : ByteArray} (hs : s.size ≤ 1000000) (w : World) :
    Calls Tryd.prog 7 #[.string s] w fun e w' => ∃ A n cap, e = .returned (.slice A n cap) ∧ opo w.heap.size w' (.slice A n cap) (opsM s.data.toList 0) ∧ (∀ o ∈ opsM s.data.toList 0, o.n ≤ 1000000000 ∧ o.d ≤ 1000000000) ∧ Below w.heap.size w w' := by
  obtain ⟨l, hl⟩ : ∃ l, l = s.data.toList := ⟨_, rfl⟩
  have hsl : l.length = s.size := by rw [hl]; exact sz s
  rw [← hl]
  have HL := Lib.hid hl
  have HSL := Lib.hid hsl
  obtain ⟨i0, hi, hz0, hz1, hz2⟩ := info_parts infoOp
  obtain ⟨M, hM⟩ : ∃ M, M = opsM l 0 := ⟨_, rfl⟩
  rw [← hM]
  have HM := Lib.hid hM
  have HBA := Lib.hid (backs_any (s := s) (by omega) w)
  clear hl hsl hM
  go_enter Tryd.func7, Tryd.ntmps7
  go_wp2_with fail
  refine HBA.out.mono ?_
  rintro e w1 ⟨b, rfl, hb, b1⟩
  rw [← HL.out] at hb
  have HB1 := Lib.hid hb
  have B1 := Lib.hid b1
  clear hb b1
  go_wp2
  go_loopw [3, 5] (fun s3 s5 wr => ∃ (a n cap : Nat) (A : Option Addr) (pre : List Opx), s3 = .slice A n cap ∧ s5 = .int .i64 (a : Int) ∧ a ≤ s.size ∧ Hid (n = pre.length ∧ n ≤ a) ∧ Hid (opo w.heap.size wr (.slice A n cap) pre) ∧ Hid (M = pre ++ opsM l a) ∧ Hid (bks wr b l) ∧ Hid (∀ o ∈ pre, o.n ≤ 1000000000 ∧ o.d ≤ 1000000000) ∧ Hid (Below w.heap.size w wr)) (fun _ s5 _ => s.size - (intOf s5).toNat)
  case atStart => exact ⟨0, 0, 0, none, [], rfl, rfl, Nat.zero_le _, Lib.hid ⟨rfl, Nat.le_refl _⟩, Lib.hid (opo_nil _ _), Lib.hid HM.out, HB1, Lib.hid (fun o h => by cases h), B1⟩
  case round =>
    obtain ⟨a, n, cap, A, pre, rfl, rfl, ha, HN, HO, HMM, HBK, HLE, HB⟩ := hrel
    by_cases han : a < s.size
    · have han' : (a : Int) < (s.size : Int) := by omega
      have ha0 : (0 : Int) ≤ (a : Int) := by omega
      have HBE := best_any (s := s) (b := b) (a := a) (w := wr) (by omega) (by rw [← HL.out]; exact HBK.out) han
      rw [← HL.out] at HBE
      obtain ⟨o, ho⟩ : ∃ o, o = bo (l.getD a 0) (best l a (min 256 a)) := ⟨_, rfl⟩
      have hle := bo_le (l := l) (a := a) (by rw [HSL.out]; exact ha) (l.getD a 0)
      have hat := opsM_at (l := l) (a := a) (by rw [HSL.out]; exact han)
      rw [← ho] at HBE hle hat
      unfold oc at HBE
      have HAT := Lib.hid hat
      have HOL := Lib.hid hle
      have HAN := Lib.hid han
      obtain ⟨a', ha'⟩ : ∃ a', a' = a + (if o.n = 0 then 1 else o.n) := ⟨_, rfl⟩
      have HA' := Lib.hid ha'
      have hal : a' ≤ s.size ∧ a < a' := by rw [ha']; have h1 := HSL.out; split <;> omega
      obtain ⟨x, hx⟩ : ∃ x : Int, x = (o.x.toNat : Int) := ⟨_, rfl⟩
      obtain ⟨on, hon⟩ : ∃ on, on = o.n := ⟨_, rfl⟩
      obtain ⟨od, hod⟩ : ∃ od, od = o.d := ⟨_, rfl⟩
      rw [← hx, ← hon, ← hod] at HBE
      have HBE := Lib.hid HBE
      have HOC : Hid ((oc o).toList = [.int .u8 x, .int .i64 (on : Int), .int .i64 (od : Int)]) := Lib.hid (by unfold oc; rw [← hx, ← hon, ← hod])
      obtain ⟨pn, hpn⟩ : ∃ pn : Int, pn = if (on : Int) = 0 then 1 else (on : Int) := ⟨_, rfl⟩
      have hsum : IntKind.i64.wrap ((a : Int) + pn) = (a' : Int) := by
        have e : (a : Int) + pn = (a' : Int) := by
          rw [hpn, ha', hon]
          by_cases h : o.n = 0
          · rw [if_pos h, if_pos (by omega)]; omega
          · rw [if_neg h, if_neg (by omega)]; omega
        rw [e, IntKind.wrap_i64]; omega
      have HPN := Lib.hid hpn
      have hn1 : Hid (n + 1 ≤ 1000001) := Lib.hid (by have := HN.out.2; omega)
      clear ho hle hat han ha' hx hon hod hpn
      go_wp2_with fail
      refine HBE.out.mono ?_
      rintro e w2 ⟨rfl, b2⟩
      have O2 := Lib.hid (HO.out.below b2)
      have BK2 := Lib.hid (HBK.out.below b2)
      have B2 := Lib.hid (grows HB.out b2)
      clear b2
      obtain ⟨w3, hw3⟩ : ∃ w3, w3 = w2.alloc (.cells #[.int .u8 x, .int .i64 (on : Int), .int .i64 (od : Int)] 41) := ⟨_, rfl⟩
      obtain ⟨Z, hZ⟩ : ∃ Z, Z = w2.heap.size := ⟨_, rfl⟩
      have K3 : Hid (Blk w3 Z 41 #[.int .u8 x, .int .i64 (on : Int), .int .i64 (od : Int)]) := Lib.hid (by rw [hw3, hZ]; exact Blk.fresh _ _ _)
      have B3 : Hid (Below w2.heap.size w2 w3) := Lib.hid (by rw [hw3]; exact below_alloc _ _)
      have O3 := Lib.hid (O2.out.below B3.out)
      have BK3 := Lib.hid (BK2.out.below B3.out)
      have HZ : Hid (∀ i, (Value.slice A n cap).ownBlock = some i → i < Z) := Lib.hid (fun i hi => by rw [hZ]; exact (O2.out.lo i hi).2)
      have z0 : w3.cell? ⟨Z, 0, none⟩ = some (.int .u8 x) := K3.out.cell 0
      have z1 : w3.cell? ⟨Z, 1, none⟩ = some (.int .i64 (on : Int)) := K3.out.cell 1
      have z2 : w3.cell? ⟨Z, 2, none⟩ = some (.int .i64 (od : Int)) := K3.out.cell 2
      have HOW : Hid (w3.ownsRow w.heap.size 41 3 (.slice A n cap) n (Oc pre)) := Lib.hid (by have h := O3.out; unfold opo at h; rw [← HN.out.1] at h; exact h)
      obtain ⟨w4, hw4⟩ : ∃ w4, w4 = (w2.alloc (.cells #[.int .u8 x, .int .i64 (on : Int), .int .i64 (od : Int)] 41)).alloc (.cells #[.int .u8 x, .int .i64 (on : Int), .int .i64 (od : Int)] 41) := ⟨_, rfl⟩
      have B4 : Hid (Below w3.heap.size w3 w4) := Lib.hid (by rw [hw4, ← hw3]; exact below_alloc _ _)
      have HOW4 : Hid (w4.ownsRow w.heap.size 41 3 (.slice A n cap) n (Oc pre)) := Lib.hid (by rw [hw4, ← hw3]; exact HOW.out.alloc _)
      have HNC : Hid (∀ (j : Nat) (u : Value), ([.int .u8 x, .int .i64 (on : Int), .int .i64 (od : Int)] : List Value)[j]? = some u → w4.cell? ((⟨w2.heap.size + 1, 0, none⟩ : Addr).add j) = some u) := Lib.hid (by
        have h := one_cells w3 x on od 41
        rw [show w3.heap.size = w2.heap.size + 1 by rw [hw3, size_alloc]] at h
        rw [hw4, ← hw3]; exact h)
      have K4 := Lib.hid (K3.out.below B4.out)
      have BK4 := Lib.hid (BK3.out.below B4.out)
      have B24 := Lib.hid (grows B2.out (grows B3.out B4.out))
      have HPR := Lib.hid (produced_any x (on : Int) (od : Int))
      rw [← HPN.out] at HPR
      clear hw3 z0 z1 z2
      go_wp2_with (at_builtin; rw [← hw4]; refine wpList_append_own_at _ rfl _ _ 24 rfl w.heap.size 41 i0 (.agg #[.int .u8 0, .int .i64 0, .int .i64 0]) 3 24 Tryd.underlying24 hi hz0 hz1 hz2 rfl (by decide) _ n (Oc pre) rfl HOW4.out ⟨w2.heap.size + 1, 0, none⟩ 1 1 [.int .u8 x, .int .i64 (on : Int), .int .i64 (od : Int)] rfl rfl HNC.out (one_one _ _ _) ?a3 ?a4 ?a5 ?_)
      case a3 => unfold maxLen; have := hn1.out; omega
      case a4 => have := hn1.out; omega
      case a5 => exact B24.out.size
      intro v3 w5 hown hgrow _ _
      have O45 : Hid (Only (fun i => (Value.slice A n cap).ownBlock = some i) w4 w5) := Lib.hid (by rw [← hw4] at hgrow; exact (Only.refl _ w4).grown hgrow (fun i hi _ => hi))
      have OW5 : Hid (opo w.heap.size w5 v3 (pre ++ [o])) := Lib.hid (by unfold opo; rw [Oc_snoc, HOC.out, List.length_append, ← HN.out.1]; exact hown)
      obtain ⟨A5, c5, hv5⟩ := OW5.out.form
      obtain ⟨n5, hn5⟩ : ∃ n5, n5 = (pre ++ [o]).length := ⟨_, rfl⟩
      rw [← hn5] at hv5
      subst hv5
      have HN5 : Hid (n5 = (pre ++ [o]).length ∧ n5 ≤ a') := Lib.hid ⟨hn5, by rw [hn5, List.length_append, ← HN.out.1]; have := HN.out.2; have := hal.2; simp; omega⟩
      have K5 : Hid (Blk w5 Z 41 #[.int .u8 x, .int .i64 (on : Int), .int .i64 (od : Int)]) := Lib.hid (K4.out.only O45.out (fun e => by have := HZ.out Z e; omega))
      have BK5 : Hid (bks w5 b l) := Lib.hid (by
        obtain ⟨F, h1, h2⟩ := BK4.out
        exact ⟨F, h1.only O45.out (fun e => own_apart HOW4.out h1 (by decide) b e rfl), h2⟩)
      have B5 : Hid (Below w.heap.size w w5) := Lib.hid (O45.out.below B24.out B24.out.size (fun i hi => (HOW4.out.lt i hi).1))
      have y0 : w5.cell? ⟨Z, 0, none⟩ = some (.int .u8 x) := K5.out.cell 0
      have y1 : w5.cell? ⟨Z, 1, none⟩ = some (.int .i64 (on : Int)) := K5.out.cell 1
      have y2 : w5.cell? ⟨Z, 2, none⟩ = some (.int .i64 (od : Int)) := K5.out.cell 2
      rw [← hZ]
      clear hown hgrow hn5 hw4 hZ
      go_wp2_with fail
      refine (HPR.out w5).mono ?_
      rintro e w6 ⟨rfl, b6⟩
      have B6 := Lib.hid (grows B5.out b6)
      have OW6 := Lib.hid (OW5.out.below b6)
      have BK6 := Lib.hid (BK5.out.below b6)
      clear b6 y0 y1 y2
      go_wp2
      go_roundw
      case rel => exact ⟨a', n5, c5, A5, pre ++ [o], rfl, by first | rfl | rw [hsum], hal.1, HN5, OW6, Lib.hid (by rw [HMM.out, HAT.out, ← HA'.out, List.append_assoc]; rfl), BK6, Lib.hid (fun y hy => by
        rcases List.mem_append.1 hy with h | h
        · exact HLE.out y h
        · obtain rfl : y = o := by simpa using h
          have := HOL.out
          exact ⟨by omega, by omega⟩), B6⟩
      case measure => have := HAN.out; have := hal.2; simp [intOf]; omega
    · have han' : ¬ (a : Int) < (s.size : Int) := by omega
      have HE : Hid (M = pre) := Lib.hid (by rw [HMM.out, opsM_end (by rw [HSL.out]; omega), List.append_nil])
      clear han
      go_wp2
      go_ret
      exact ⟨A, n, cap, rfl, by rw [HE.out]; exact HO.out, by rw [HE.out]; exact HLE.out, HB.out⟩
end Go.Proofs.YtnkninjdpgpkmaaDoor.Hp
