/-
  The bytes of a set as a string: Bytes, the reference's Has, with, Of, Range, Bytes, Not, Or, And.
  Conditions: as each theorem says.
-/
import Derived.Test.YtdbeohfaaonbjaaTc
namespace Go.Proofs.Ytdbeohfaaonbjaa.Td
open Go.RowKit Go.Proofs.Ytdbeohfaaonbjaa.Vm Go.Proofs.Ytdbeohfaaonbjaa.Vo Go.Proofs.Ytdbeohfaaonbjaa.Bw Go.Proofs.Ytdbeohfaaonbjaa.Na Go.Proofs.Ytdbeohfaaonbjaa.Tm Go.Proofs.Ytdbeohfaaonbjaa.Ta Go.Proofs.Ytdbeohfaaonbjaa.Tb Go.Proofs.Ytdbeohfaaonbjaa.Tc

/-- The bytes of a set below k, as bytes. -/
def btTo (a : List Nat) (k : Nat) : List UInt8 := ((List.range k).filter (has a)).map UInt8.ofNat
def bts (a : List Nat) : List UInt8 := (byt a).map UInt8.ofNat
theorem btTo_len (a : List Nat) (k : Nat) : (btTo a k).length ≤ k := by
  unfold btTo
  rw [List.length_map]
  exact Nat.le_trans (List.length_filter_le _ _) (by simp)
theorem btTo_yes {a : List Nat} {k : Nat} (h : has a k = true) : btTo a (k + 1) = btTo a k ++ [UInt8.ofNat k] := by
  unfold btTo
  rw [List.range_succ, List.filter_append, List.filter_cons, if_pos h]; simp
theorem btTo_no {a : List Nat} {k : Nat} (h : has a k = false) : btTo a (k + 1) = btTo a k := by
  unfold btTo
  rw [List.range_succ, List.filter_append, List.filter_cons, if_neg (by simp [h])]; simp
theorem btTo_zero (a : List Nat) : btTo a 0 = [] := rfl
theorem btTo_all (a : List Nat) : btTo a 256 = bts a := rfl
theorem byte_val {k : Nat} (h : k < 256) : Value.int .u8 (k : Int) = B (UInt8.ofNat k) := by
  unfold B
  have : (UInt8.ofNat k).toNat = k := by simp; omega
  rw [this]
theorem made0 (n : Nat) (hn : n ≤ 1000000) (u : World) : (Instr.makeSlice 41 (.int .i64 0) (.int .i64 (n : Int))).run Try.prog u = .ok (.slice (some ⟨u.heap.size, 0, none⟩) 0 n) (u.alloc (.cells (madeCells #[.int .u8 0] n) 5)) := by
  obtain ⟨i0, hi, hz0, hz1, hz2⟩ := info_parts infoU
  have h := run_make (P := Try.prog) u 41 5 i0 (.int .u8 0) Try.underlying41 hi hz0 .i64 .i64 0 (n : Int) (by omega) (by omega) (by rw [hz2]; omega) (by omega)
  rw [hz1] at h
  simpa [Value.cells] using h

/-- A row of bytes of the call's own. -/
def ob (base : Nat) (w : World) (v : Value) (l : List UInt8) : Prop := w.ownsRow base 5 1 v l.length (Bs l)
section
variable {w w' : World} {base : Nat} {v : Value} {l : List UInt8}
theorem ob_nil (w : World) (base : Nat) : ob base w (.slice none 0 0) [] := World.ownsRow_nil _ _ _ _
theorem ob.below (h : ob base w v l) (k : Below w.heap.size w w') : ob base w' v l := own_only (S := fun _ => False) h (Only.of_below k) (fun _ _ e => e)
theorem ob_made {n : Nat} (hn : n ≤ 1000000) (hb : base ≤ w.heap.size) : ob base (w.alloc (.cells (madeCells #[.int .u8 0] n) 5)) (.slice (some ⟨w.heap.size, 0, none⟩) 0 n) [] :=
  ⟨rfl, .inr ⟨w.heap.size, n, _, rfl, hb, heap_alloc_new w _, Nat.zero_le _, by unfold maxLen; omega, by rw [size_madeCells]; omega, rfl⟩⟩
theorem ob_lit {c : List UInt8} (hc : c.length ≤ 1000000) (hb : base ≤ w.heap.size) : ob base (w.alloc (.cells (Bs c).toArray 5)) (.slice (some ⟨w.heap.size, 0, none⟩) c.length c.length) c :=
  World.ownsRow_lit w (Bs c).toArray c.length hb (by unfold maxLen; omega) (by simp [Bs])
theorem ob_string (h : ob base w v l) : (convert 41 9 v).run Try.prog w = .ok (.string ⟨l.toArray⟩) w :=
  own_string (P := Try.prog) (dst := 9) Try.underlying41 Try.underlying5 Try.underlying9 h
theorem Blk_low {B g : Nat} {t : TypeId} {cs : Array Value} (h : Blk w g t cs) (k : Below B w w') (hg : g < B) : Blk w' g t cs := (k.block g hg).trans h
theorem Bs_one (l : List UInt8) : ∀ u ∈ Bs l, u.oneCell' = true := fun u hu => by
  obtain ⟨b, _, rfl⟩ := List.mem_map.1 hu
  rfl
theorem Bs_append (l c : List UInt8) : Bs l ++ Bs c = Bs (l ++ c) := by simp [Bs]
end
/-- 'append(v, b1, b2, ..)'. -/
theorem wpList_ob {ops : Array Oper} {rest : List Oper} {o : Oper} {a : Act} {Q : Exit → Act → World → Prop} (hgd : o.guard = none) (s x : Operand)
    (ho : o.op = .call { callee := .builtin .append, args := #[s, x], argTypes := #[41, 41] }) {base : Nat} {W w : World} (HB : Below base W w) (hbW : base ≤ W.heap.size)
    {v : Value} {l : List UInt8} (hs : a.eval s = v) (hown : ob base w v l) {cs : Array Value} (c : List UInt8) (hcs : cs = (Bs c).toArray) {m k : Nat} (hm : m = c.length) (hx : a.eval x = .slice (some ⟨w.heap.size, 0, none⟩) m k)
    (hlen : l.length + c.length ≤ 1000000000)
    (h : ∀ v' w', ob base w' v' (l ++ c) → Below base W w' → wpList Try.prog ops Q rest (a.put o.dst v') w') : wpList Try.prog ops Q (o :: rest) a (w.alloc (.cells cs 5)) := by
  obtain ⟨i0, hi, hz0, hz1, hz2⟩ := info_parts infoU
  have hsz := HB.size
  refine wpList_append_own _ hgd s x 41 ho base 5 i0 (.int .u8 0) 1 1 Try.underlying41 hi hz0 hz1 hz2 rfl (by decide) v l.length (Bs l) hs (World.ownsRow.alloc hown _) ⟨w.heap.size, 0, none⟩ m k (Bs c) hx (by rw [Bs_length, hm, Nat.mul_one]) (fun j u hj => ?_) (Bs_one c) (by unfold maxLen; omega) (by omega) (by rw [size_alloc]; omega) (fun v' w' h2 h3 _ => h v' w' ?_ ?_)
  · rw [show ((⟨w.heap.size, 0, none⟩ : Addr).add j) = ⟨w.heap.size, j, none⟩ by unfold Addr.add; split <;> simp_all, (Blk.fresh w _ _).cell, hcs]
    simpa using hj
  · have : w'.ownsRow base 5 1 v' (l ++ c).length (Bs (l ++ c)) := by
      rw [List.length_append, ← Bs_append, ← hm]; exact h2
    exact this
  · exact (HB.alloc (by omega) _).grown h3 (by simp; omega) (fun k hk => (World.ownsRow.lt hown k hk).1)

set_option maxRecDepth 100000 in
theorem Bytes_any {a : List Nat} (ha : isSet a) (w : World) :
    Calls Try.prog 18 #[.agg (sv a)] w fun e w' => e = .returned (.string ⟨(bts a).toArray⟩) ∧ Below w.heap.size w w' := by
  obtain ⟨W, hW⟩ : ∃ W, W = w.alloc (.cells (sv a) 25) := ⟨_, rfl⟩
  have HX : Hid (Blk W w.heap.size 25 (sv a)) := Lib.hid (by rw [hW]; exact Blk.fresh w _ _)
  have HS : Hid (W.heap.size = w.heap.size + 1) := Lib.hid (by rw [hW]; exact size_alloc _ _)
  have HWB : Hid (Below w.heap.size w W) := Lib.hid (by rw [hW]; exact below_alloc _ _)
  have HW := Lib.hid hW
  clear hW
  have hmk : ∀ u : World, (Instr.makeSlice 41 (.int .i64 0) (.int .i64 256)).run Try.prog u = .ok (.slice (some ⟨u.heap.size, 0, none⟩) 0 256) (u.alloc (.cells (madeCells #[.int .u8 0] 256) 5)) := made0 256 (by omega)
  obtain ⟨S, hS⟩ : ∃ S, S = bts a := ⟨_, rfl⟩
  have HSS := Lib.hid hS
  rw [← hS]
  clear hS
  go_enter Try.func18, Try.ntmps18
  go_wp2
  clear hmk
  go_loopw [6, 3] (fun i v wr => ∃ k : Nat, i = .int .i64 k ∧ k ≤ 256 ∧ Hid (ob (w.heap.size + 1) wr v (btTo a k)) ∧ Hid (Below (w.heap.size + 1) W wr))
    (fun i _ _ => 256 - (intOf i).toNat)
  case atStart =>
    have hW := HW.out
    have hob := ob_made (n := 256) (base := w.heap.size + 1) (w := W) (by omega) (by rw [HS.out]; exact Nat.le_refl _)
    have hbl := below_alloc W (.cells (madeCells #[.int .u8 0] 256) 5)
    rw [HS.out] at hob hbl
    subst hW
    exact ⟨0, rfl, by omega, Lib.hid hob, Lib.hid hbl⟩
  case round =>
    obtain ⟨k, rfl, hk, HO, HB⟩ := hrel
    by_cases h8 : k < 256
    · have HT : Hid (Blk wr w.heap.size 25 (sv a)) := Lib.hid (Blk_low HX.out HB.out (by omega))
      have H4 : Hid ((sv a).size = 4) := Lib.hid (sv4 ha)
      have HA : Hid (∀ w, Calls Try.prog 19 #[.agg (sv a), .int .u8 k] w fun e w' => e = .returned (.bool (has a k)) ∧ Below w.heap.size w w') := Lib.hid (fun w => Has_any ha h8 w)
      have HL := Lib.hid (btTo_len a k)
      obtain ⟨L1, hL1⟩ : ∃ L1, L1 = btTo a (k + 1) := ⟨_, rfl⟩
      have HL1 := Lib.hid hL1
      have HY : Hid (has a k = true → L1 = btTo a k ++ [UInt8.ofNat k]) := Lib.hid (by rw [hL1]; exact btTo_yes)
      have HN : Hid (has a k = false → L1 = btTo a k) := Lib.hid (by rw [hL1]; exact btTo_no)
      clear hL1
      generalize has a k = t at *
      generalize sv a = z at *
      generalize btTo a k = L at *
      have hsz : w.heap.size + 1 ≤ wr.heap.size := by rw [← HS.out]; exact HB.out.size
      cases ht : t
      · rw [ht] at HA
        have HE := Lib.hid (HN.out ht)
        clear HY HN ht hsz
        go_wp2_with (first | refine wpList_load_row rfl 25 _ rfl w.heap.size rfl _ _ _ _ HT.out Try.underlying25 rfl (fit H4.out) ?_ | (go_at_call 19; refine (HA.out _).mono ?_; rintro e w' ⟨rfl, b1⟩; have B1 := Lib.hid b1; clear b1))
        go_roundw
        case rel =>
          have hsz : w.heap.size + 1 ≤ wr.heap.size := by rw [← HS.out]; exact HB.out.size
          exact ⟨k + 1, by go_num, by omega, Lib.hid (by rw [← HL1.out, HE.out]; exact HO.out.below B1.out), Lib.hid (HB.out.trans (B1.out.mono hsz))⟩
        case measure => simp [intOf]; omega
      · rw [ht] at HA
        have HE := Lib.hid (HY.out ht)
        have HC : Hid (#[Value.int .u8 (k : Int)] = (Bs [UInt8.ofNat k]).toArray) := Lib.hid (by rw [byte_val h8]; rfl)
        have HZ := Lib.hid hsz
        have HG : Hid (w.heap.size + 1 ≤ W.heap.size) := Lib.hid (by rw [HS.out]; exact Nat.le_refl _)
        have HLL : Hid (L.length + [UInt8.ofNat k].length ≤ 1000000000) := Lib.hid (by have := HL.out; simp; omega)
        clear HY HN ht hsz
        go_wp2_with (first | refine wpList_load_row rfl 25 _ rfl w.heap.size rfl _ _ _ _ HT.out Try.underlying25 rfl (fit H4.out) ?_ | (go_at_call 19; refine (HA.out _).mono ?_; rintro e w' ⟨rfl, b1⟩; have B1 := Lib.hid b1; clear b1) | (at_builtin; refine wpList_ob rfl _ _ rfl (HB.out.trans (B1.out.mono HZ.out)) HG.out (by rfl) (HO.out.below B1.out) [UInt8.ofNat k] HC.out rfl (by rfl) HLL.out ?_; intro v2 w2 h2 b2; have H2 := Lib.hid h2; have B2 := Lib.hid b2; clear h2 b2))
        go_roundw
        case rel => exact ⟨k + 1, by go_num, by omega, Lib.hid (by rw [← HL1.out, HE.out]; exact H2.out), B2⟩
        case measure => simp [intOf]; omega
    · have hlt : ¬ ((k : Int) < 256) := by omega
      have HK := Lib.hid (show k = 256 by omega)
      have hcv := ob_string HO.out
      clear hk h8
      go_wp2
      go_ret
      exact ⟨ret_str (by rw [HK.out, btTo_all, HSS.out]), HWB.out.trans (HB.out.mono (by omega))⟩
end Go.Proofs.Ytdbeohfaaonbjaa.Td
