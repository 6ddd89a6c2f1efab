/-
  strings.IndexByte in the list of masked bytes; appendByte: a byte's notation behind a row of bytes.
  runLength, appendRun, appendList: a list of bytes as it is shown.
  Conditions: as each theorem says.
-/
import Derived.Test.YtabcehifdomolaaDoorQaf
import Derived.Test.YtabcehifdomolaaDoorQab
import Derived.Test.YtabcehifdomolaaDoorQag
import Derived.Shelf.Strings.Search1
import Derived.Deep.RegionWith
import Derived.Deep.RegionLaw
import Derived.BigQuiet
import Derived.PlainAid
namespace Go.Proofs.YtabcehifdomolaaDoor.Tg
open Go.RowKit Go.PlainAid Go.Proofs.YtabcehifdomolaaDoor.Vm Go.Proofs.YtabcehifdomolaaDoor.Vo Go.Proofs.YtabcehifdomolaaDoor.Bw Go.Proofs.YtabcehifdomolaaDoor.Ba Go.Proofs.YtabcehifdomolaaDoor.Na Go.Proofs.YtabcehifdomolaaDoor.Tm Go.Proofs.YtabcehifdomolaaDoor.Ts Go.Proofs.YtabcehifdomolaaDoor.Ta Go.Proofs.YtabcehifdomolaaDoor.Tb Go.Proofs.YtabcehifdomolaaDoor.Td

def ren : Shelf.Ren := ⟨fun | 217 => 70 | _ => 80, fun | 3 => 3 | 5 => 5 | _ => 9, fun x => x⟩
theorem lays : Lays.n217 Tryd.prog ren := by
  constructor <;> (intros; kernel_rfl)
def maskB : ByteArray := ⟨#[92, 91, 93, 40, 41, 123, 125, 42, 43, 63, 124, 46, 45, 94, 47, 34]⟩
def ixM (c : Nat) : Int := Lib.indexByte maskB.data.toList c.toUInt8
theorem Index_any (c : Nat) (w : World) :
    Calls Tryd.prog 55 #[.string maskB, .int .u8 c] w fun e w' => e = .returned (.int .i64 (ixM c)) ∧ w = w' := by
  have HI : Hid (∀ w, Calls Tryd.prog 70 #[.string maskB, .int .u8 c] w fun e w' => e = .returned (.int .i64 (ixM c)) ∧ w = w') := Lib.hid fun w => (Any.stringslite_IndexByte lays maskB (c : Int) w).mono fun _ _ ⟨h, k⟩ => ⟨h, k.symm⟩
  generalize ixM c = m at *
  generalize maskB = s at *
  go_enter Tryd.func55, Tryd.ntmps55
  go_wp2_with (go_at_call 70; refine (HI.out _).mono ?_; rintro e w' ⟨rfl, rfl⟩)
  go_ret
  exact ⟨rfl, rfl⟩
theorem ixM_is : ∀ c < 256, (0 ≤ ixM c ↔ c ∈ maskL) := by decide +kernel
theorem mask_range : ∀ c ∈ maskL, 32 < c ∧ c < 127 := by decide

/-- 'append(v, s...)'. -/
theorem wpList_obs {ops : Array Oper} {rest : List Oper} {o : Oper} {a : Act} {Q : Exit → Act → World → Prop} (hgd : o.guard = none) (sl x : Operand)
    (ho : o.op = .call { callee := .builtin .append, args := #[sl, x], argTypes := #[59, 9] }) {base : Nat} {W w : World} (HB : Below base W w) (hbW : base ≤ W.heap.size)
    {v : Value} {l : List UInt8} (hs : a.eval sl = v) (hown : ob base w v l) (s : ByteArray) (hx : a.eval x = .string s) (hlen : l.length + s.size ≤ 1000000000)
    (h : ∀ v' w', ob base w' v' (l ++ s.data.toList) → Below base W w' → wpList Tryd.prog ops Q rest (a.put o.dst v') w') : wpList Tryd.prog ops Q (o :: rest) a w := by
  obtain ⟨i0, hi, hz0, hz1, hz2⟩ := info_parts infoU
  have hsz := HB.size
  refine wpList_str_at w hgd sl x 59 9 ho base 5 i0 Tryd.underlying59 Tryd.underlying9 hi hz0 hz1 hz2 v l.length (Bs l) hs hown s hx (by unfold maxLen; omega) (by omega) (by omega) (fun v' w' h2 h3 _ => h v' w' ?_ ?_)
  · have e : Lib.strCells s = Bs s.data.toList := rfl
    have : w'.ownsRow base 5 1 v' (l ++ s.data.toList).length (Bs (l ++ s.data.toList)) := by
      rw [List.length_append, ← Bs_append, ← e, show s.data.toList.length = s.size by simp]
      exact h2
    exact this
  · exact HB.grown h3 (by omega) (fun k hk => (World.ownsRow.lt hown k hk).1)
/-- 'append(v, b1, b2, ..)' at a step of a region that draws. -/
theorem step_ob {ops : Array Oper} {o : Oper} {a : Act} {K : Act → World → Prop} {Q : Exit → Act → World → Prop} {E : Prop} (hgd : o.guard = none) (s x : Operand)
    (ho : o.op = .call { callee := .builtin .append, args := #[s, x], argTypes := #[59, 59] }) {base g : Nat} {W w : World} (HB : Below base W w) (hbW : base ≤ W.heap.size)
    {v : Value} {l : List UInt8} (hs : a.eval s = v) (hown : ob base w v l) {cs : Array Value} (hb : Blk w g 5 cs) (c : List UInt8) (hcs : cs = (Bs c).toArray) {m k : Nat} (hm : m = c.length) (hx : a.eval x = .slice (some ⟨g, 0, none⟩) m k)
    (hlen : l.length + c.length ≤ 1000000000)
    (h : ∀ v' w', ob base w' v' (l ++ c) → Below base W w' → K (a.put o.dst v') w') : if Region.wanted o (yielded ops a.tmps) = true then Oper.wp Tryd.prog o a w K Q else E := by
  have hw : Region.wanted o (yielded ops a.tmps) = true := by simp [Region.wanted, hgd]
  rw [if_pos hw]
  obtain ⟨i0, hi, hz0, hz1, hz2⟩ := info_parts infoU
  have hsz := HB.size
  refine wp_append_own w s x 59 ho base 5 i0 (.int .u8 0) 1 1 Tryd.underlying59 hi hz0 hz1 hz2 rfl (by decide) v l.length (Bs l) hs hown ⟨g, 0, none⟩ m k (Bs c) hx (by rw [Bs_length, hm, Nat.mul_one]) (fun j u hj => ?_) (Bs_one c) (by unfold maxLen; omega) (by omega) (by omega) (fun v' w' h2 h3 _ => h v' w' ?_ ?_)
  · rw [show ((⟨g, 0, none⟩ : Addr).add j) = ⟨g, j, none⟩ by unfold Addr.add; split <;> simp_all, hb.cell, hcs]
    simpa using hj
  · have : w'.ownsRow base 5 1 v' (l ++ c).length (Bs (l ++ c)) := by
      rw [List.length_append, ← Bs_append, ← hm]; exact h2
    exact this
  · exact HB.grown h3 (by omega) (fun k hk => (World.ownsRow.lt hown k hk).1)

def hexB : ByteArray := ⟨#[48, 49, 50, 51, 52, 53, 54, 55, 56, 57, 97, 98, 99, 100, 101, 102]⟩
theorem hexB_get : ∀ k < 16, hexB.data.toList[k]? = some (hexd k) := by decide
theorem bt_hex : ∀ k < 16, bt hexB k = ((hexd k).toNat : Int) := by decide +kernel
def apR (base : Nat) (W : World) (l : List UInt8) (e : Ending) (w' : World) : Prop := ∃ v', e = .returned v' ∧ ob base w' v' l ∧ Below base W w'

set_option maxRecDepth 100000 in
theorem appendByte_any {base : Nat} {W w : World} (HB : Below base W w) (hbW : base ≤ W.heap.size) {v : Value} {l : List UInt8} (h : ob base w v l) (hl : l.length ≤ 100000000) {c : Nat} (hc : c < 256) :
    Calls Tryd.prog 39 #[v, .int .u8 c] w (apR base W (l ++ nota c)) := by
  have HL : Hid (l.length ≤ 100000000) := Lib.hid hl
  have HO := Lib.hid h
  have HG := Lib.hid hbW
  have HBB := Lib.hid HB
  clear h hl hbW HB
  by_cases h10 : c = 10
  · subst h10
    have HN : Hid (nota 10 = [92, 110]) := Lib.hid (by decide)
    rw [HN.out]
    go_enter Tryd.func39, Tryd.ntmps39
    go_wp2_with (at_builtin; refine wpList_obs rfl _ _ rfl HBB.out HG.out (by rfl) HO.out ⟨#[92, 110]⟩ (by rfl) (by have := HL.out; show _ + 2 ≤ _; omega) ?_; intro v2 w2 h2 b2; have H2 := Lib.hid h2; have B2 := Lib.hid b2; clear h2 b2)
    go_ret
    exact ⟨_, rfl, H2.out, B2.out⟩
  by_cases h9 : c = 9
  · subst h9
    have HN : Hid (nota 9 = [92, 116]) := Lib.hid (by decide)
    rw [HN.out]
    go_enter Tryd.func39, Tryd.ntmps39
    go_wp2_with (at_builtin; refine wpList_obs rfl _ _ rfl HBB.out HG.out (by rfl) HO.out ⟨#[92, 116]⟩ (by rfl) (by have := HL.out; show _ + 2 ≤ _; omega) ?_; intro v2 w2 h2 b2; have H2 := Lib.hid h2; have B2 := Lib.hid b2; clear h2 b2)
    go_ret
    exact ⟨_, rfl, H2.out, B2.out⟩
  by_cases h32 : c = 32
  · subst h32
    have HN : Hid (nota 32 = [92, 115]) := Lib.hid (by decide)
    rw [HN.out]
    go_enter Tryd.func39, Tryd.ntmps39
    go_wp2_with (at_builtin; refine wpList_obs rfl _ _ rfl HBB.out HG.out (by rfl) HO.out ⟨#[92, 115]⟩ (by rfl) (by have := HL.out; show _ + 2 ≤ _; omega) ?_; intro v2 w2 h2 b2; have H2 := Lib.hid h2; have B2 := Lib.hid b2; clear h2 b2)
    go_ret
    exact ⟨_, rfl, H2.out, B2.out⟩
  have d10 : ((c : Int) == 10) = false := by simp; omega
  have d9 : ((c : Int) == 9) = false := by simp; omega
  have d32 : ((c : Int) == 32) = false := by simp; omega
  by_cases hr : 32 < c ∧ c < 127
  · have hr1 : ¬ ((c : Int) < 32) := by omega
    have hr2 : ¬ (126 < (c : Int)) := by omega
    have HC : Hid (Value.int .u8 (c : Int) = B (UInt8.ofNat c)) := Lib.hid (byte_val hc)
    by_cases hm : c ∈ maskL
    · have HN : Hid (nota c = [92, UInt8.ofNat c]) := Lib.hid (by unfold nota; rw [if_neg h10, if_neg h9, if_neg h32, if_pos hm])
      rw [HN.out]
      have hi := (ixM_is c hc).2 hm
      have HI : Hid (∀ w, Calls Tryd.prog 55 #[.string maskB, .int .u8 c] w fun e w' => e = .returned (.int .i64 (ixM c)) ∧ w = w') := Lib.hid fun w => Index_any c w
      generalize ixM c = m at *
      have HA : Hid (#[Value.int .u8 92, Value.int .u8 (c : Int)] = (Bs [92, UInt8.ofNat c]).toArray) := Lib.hid (by rw [HC.out]; rfl)
      clear hr h10 h9 h32 hm hc
      go_enter Tryd.func39, Tryd.ntmps39
      go_wp2_with (first | (go_at_call 55; refine (HI.out _).mono ?_; rintro e w' ⟨rfl, rfl⟩) | (at_builtin; refine wpList_ob rfl _ _ rfl HBB.out HG.out (by rfl) HO.out [92, UInt8.ofNat c] HA.out rfl (by rfl) (by have := HL.out; show _ + 2 ≤ _; omega) ?_; intro v2 w2 h2 b2; have H2 := Lib.hid h2; have B2 := Lib.hid b2; clear h2 b2))
      go_ret
      exact ⟨_, rfl, H2.out, B2.out⟩
    · have HN : Hid (nota c = [UInt8.ofNat c]) := Lib.hid (by unfold nota; rw [if_neg h10, if_neg h9, if_neg h32, if_neg hm, if_pos hr])
      rw [HN.out]
      have hi : ¬ (0 ≤ ixM c) := fun h => hm ((ixM_is c hc).1 h)
      have HI : Hid (∀ w, Calls Tryd.prog 55 #[.string maskB, .int .u8 c] w fun e w' => e = .returned (.int .i64 (ixM c)) ∧ w = w') := Lib.hid fun w => Index_any c w
      generalize ixM c = m at *
      have HA : Hid (#[Value.int .u8 (c : Int)] = (Bs [UInt8.ofNat c]).toArray) := Lib.hid (by rw [HC.out]; rfl)
      clear hr h10 h9 h32 hm hc
      go_enter Tryd.func39, Tryd.ntmps39
      go_wp2_with (first | (go_at_call 55; refine (HI.out _).mono ?_; rintro e w' ⟨rfl, rfl⟩) | (at_builtin; refine wpList_ob rfl _ _ rfl HBB.out HG.out (by rfl) HO.out [UInt8.ofNat c] HA.out rfl (by rfl) (by have := HL.out; show _ + 1 ≤ _; omega) ?_; intro v2 w2 h2 b2; have H2 := Lib.hid h2; have B2 := Lib.hid b2; clear h2 b2))
      go_ret
      exact ⟨_, rfl, H2.out, B2.out⟩
  · have hm : c ∉ maskL := fun h => hr (mask_range c h)
    have HN : Hid (nota c = [92, 120, hexd (c / 16), hexd (c % 16)]) := Lib.hid (by unfold nota; rw [if_neg h10, if_neg h9, if_neg h32, if_neg hm, if_neg hr])
    rw [HN.out]
    obtain ⟨q, hq⟩ : ∃ q, q = c / 16 := ⟨_, rfl⟩
    obtain ⟨r, hrr⟩ : ∃ r, r = c % 16 := ⟨_, rfl⟩
    have hq16 : q < 16 := by omega
    have hr16 : r < 16 := by omega
    have e1 : (c : Int) / 16 = (q : Int) := by omega
    have e2 : (c : Int) % 16 = (r : Int) := by omega
    have e2' : (c : Int).tmod 16 = (r : Int) := by rw [Int.tmod_eq_emod_of_nonneg (by omega)]; exact e2
    have f1 : (q : Int) < 16 := by omega
    have f2 : (r : Int) < 16 := by omega
    rw [← hq, ← hrr]
    have x1 : bt ⟨#[48, 49, 50, 51, 52, 53, 54, 55, 56, 57, 97, 98, 99, 100, 101, 102]⟩ q = ((hexd q).toNat : Int) := bt_hex q hq16
    have x2 : bt ⟨#[48, 49, 50, 51, 52, 53, 54, 55, 56, 57, 97, 98, 99, 100, 101, 102]⟩ r = ((hexd r).toNat : Int) := bt_hex r hr16
    have y1 : IntKind.u8.wrap (q : Int) = (q : Int) := by rw [IntKind.wrap_u8']; omega
    have y2 : IntKind.u8.wrap (r : Int) = (r : Int) := by rw [IntKind.wrap_u8']; omega
    generalize hexd q = u1 at *
    generalize hexd r = u2 at *
    have hb := get_bt ⟨#[48, 49, 50, 51, 52, 53, 54, 55, 56, 57, 97, 98, 99, 100, 101, 102]⟩
    have HA : Hid (#[Value.int .u8 92, Value.int .u8 120, Value.int .u8 (u1.toNat : Int), Value.int .u8 (u2.toNat : Int)] = (Bs [92, 120, u1, u2]).toArray) := Lib.hid rfl
    have h3 : c < 32 ∨ 126 < c := by omega
    clear hr h10 h9 h32 hm hc hq hrr
    have HS : Hid (base ≤ w.heap.size) := Lib.hid (Nat.le_trans HG.out HBB.out.size)
    rcases h3 with h3 | h3
    · have h3' : (c : Int) < 32 := by omega
      clear h3
      go_enter Tryd.func39, Tryd.ntmps39
      go_wp2
      go_region_law (go_loud (refine step_ob rfl _ _ rfl (below_drew (HBB.out.alloc HS.out _)) HG.out (by rfl) (show ob base (w.alloc _).drew v l from World.ownsRow.alloc HO.out _) (show Blk (w.alloc _).drew w.heap.size 5 _ from Blk.fresh w _ _) [92, 120, u1, u2] HA.out rfl (by rfl) (by have := HL.out; show _ + 4 ≤ _; omega) ?_); intro v2 w2 h2 b2; have H2 := Lib.hid h2; have B2 := Lib.hid b2; clear h2 b2)
      all_goals go_wp2
      all_goals exact bodyPost_ret (v := v2) ((results_tmp (t := 4) rfl _ _ _).trans (by rfl)) rfl ⟨_, rfl, H2.out, B2.out⟩
    · have h3' : 126 < (c : Int) := by omega
      have h4' : ¬ ((c : Int) < 32) := by omega
      clear h3
      go_enter Tryd.func39, Tryd.ntmps39
      go_wp2
      go_region_law (go_loud (refine step_ob rfl _ _ rfl (below_drew (HBB.out.alloc HS.out _)) HG.out (by rfl) (show ob base (w.alloc _).drew v l from World.ownsRow.alloc HO.out _) (show Blk (w.alloc _).drew w.heap.size 5 _ from Blk.fresh w _ _) [92, 120, u1, u2] HA.out rfl (by rfl) (by have := HL.out; show _ + 4 ≤ _; omega) ?_); intro v2 w2 h2 b2; have H2 := Lib.hid h2; have B2 := Lib.hid b2; clear h2 b2)
      all_goals go_wp2
      all_goals exact bodyPost_ret (v := v2) ((results_tmp (t := 4) rfl _ _ _).trans (by rfl)) rfl ⟨_, rfl, H2.out, B2.out⟩
end Go.Proofs.YtabcehifdomolaaDoor.Tg
namespace Go.Proofs.YtabcehifdomolaaDoor.Th
open Go.RowKit Go.PlainAid Go.Proofs.YtabcehifdomolaaDoor.Vm Go.Proofs.YtabcehifdomolaaDoor.Vo Go.Proofs.YtabcehifdomolaaDoor.Bw Go.Proofs.YtabcehifdomolaaDoor.Ba Go.Proofs.YtabcehifdomolaaDoor.Na Go.Proofs.YtabcehifdomolaaDoor.Tm Go.Proofs.YtabcehifdomolaaDoor.Ts Go.Proofs.YtabcehifdomolaaDoor.Ta Go.Proofs.YtabcehifdomolaaDoor.Tb Go.Proofs.YtabcehifdomolaaDoor.Td Go.Proofs.YtabcehifdomolaaDoor.Tg

/-- A string's bytes as numbers. -/
def nl (s : ByteArray) : List Nat := s.data.toList.map (·.toNat)
theorem nl_len (s : ByteArray) : (nl s).length = s.size := by simp [nl]
theorem nl_get {s : ByteArray} {k x : Nat} (h : (nl s)[k]? = some x) : k < s.size ∧ bt s k = (x : Int) ∧ x < 256 := by
  have hk : k < s.size := by rw [← nl_len]; exact (List.getElem?_eq_some_iff.1 h).1
  refine ⟨hk, ?_⟩
  unfold nl at h
  rw [List.getElem?_map] at h
  obtain ⟨b, hb, he⟩ := Option.map_eq_some_iff.1 h
  have hb2 : s[k] = b := by
    have : s.data.toList[k]? = some (s[k]) := by rw [Array.getElem?_toList]; exact Array.getElem?_eq_getElem hk
    rw [this] at hb; injection hb
  refine ⟨?_, by rw [← he]; exact b.toNat_lt⟩
  unfold bt
  rw [dif_pos hk, hb2, ← he]
def asc (l : List Nat) : Prop := l.Pairwise (· < ·)
theorem asc_get {l : List Nat} (h : asc l) {i j x y : Nat} (hij : i < j) (hx : l[i]? = some x) (hy : l[j]? = some y) : x < y := by
  obtain ⟨h1, e1⟩ := List.getElem?_eq_some_iff.1 hx
  obtain ⟨h2, e2⟩ := List.getElem?_eq_some_iff.1 hy
  rw [← e1, ← e2]
  exact List.pairwise_iff_getElem.1 h i j h1 h2 hij
theorem asc_drop {l : List Nat} (h : asc l) (k : Nat) : asc (l.drop k) := List.Pairwise.sublist (List.drop_sublist k l) h

theorem cut_low {S : ByteArray} {k : Nat} (h : k ≤ S.size) (u : World) : (Instr.slice 9 (.string S) none (some (.int .i64 (k : Int))) none).run Tryd.prog u = .ok (.string (S.extract 0 k)) u := by
  have e := run_slice_string_h (P := Tryd.prog) (w := u) (t := 9) (s := S) Tryd.underlying9 .i64 (k : Int) (by omega) (by omega)
  simpa using e
theorem cut_high {S : ByteArray} {k : Nat} (h : k ≤ S.size) (u : World) : (Instr.slice 9 (.string S) (some (.int .i64 (k : Int))) none none).run Tryd.prog u = .ok (.string (S.extract k S.size)) u := by
  have e := run_slice_string_l (P := Tryd.prog) (w := u) (t := 9) (s := S) Tryd.underlying9 .i64 (k : Int) (by omega) (by omega)
  simpa using e
theorem nl_low (S : ByteArray) (k : Nat) : nl (S.extract 0 k) = (nl S).take k := by
  unfold nl
  rw [ByteArray.data_extract, Array.toList_extract, List.extract_eq_take_drop, List.map_take]
  simp
theorem nl_high (S : ByteArray) (k : Nat) : nl (S.extract k S.size) = (nl S).drop k := by
  unfold nl
  rw [ByteArray.data_extract, Array.toList_extract, List.extract_eq_take_drop]
  simp [List.map_drop, List.take_of_length_le]

set_option maxHeartbeats 1000000 in
set_option maxRecDepth 100000 in
theorem runLength_any {t : ByteArray} {x : Nat} {r : List Nat} (ht : nl t = x :: r) (ha : asc (x :: r)) (hl : t.size ≤ 256) (w : World) :
    Calls Tryd.prog 57 #[.string t] w fun e w' => e = .returned (.int .i64 ((runF x r + 1 : Nat) : Int)) ∧ Below w.heap.size w w' := by
  have hlen : (x :: r).length = t.size := by rw [← ht, nl_len]
  have hpos : 1 ≤ t.size := by rw [← hlen]; simp
  obtain ⟨N, hN⟩ : ∃ N, N = runF x r + 1 := ⟨_, rfl⟩
  have HN := Lib.hid hN
  have HLN := Lib.hid hlen
  have HT := Lib.hid ht
  have HA := Lib.hid ha
  rw [← hN]
  clear hN hlen ht ha
  go_enter Tryd.func57, Tryd.ntmps57
  go_wp2
  go_loopw [3] (fun n wr => ∃ q : Nat, n = .int .i64 (q : Int) ∧ 1 ≤ q ∧ q ≤ t.size ∧ Hid (∀ j, j < q → (x :: r)[j]? = some (x + j)) ∧ Hid (Below w.heap.size w wr))
    (fun n _ => t.size - (intOf n).toNat)
  case atStart =>
    have h0 : ∀ j, j < 1 → (x :: r)[j]? = some (x + j) := fun j hj => by
      have e : j = 0 := by omega
      subst e; rfl
    exact ⟨1, rfl, by omega, hpos, Lib.hid h0, Lib.hid (Below.refl _ _)⟩
  case round =>
    obtain ⟨q, rfl, hq1, hq, HR, HB⟩ := hrel
    by_cases h8 : q < t.size
    · obtain ⟨p, hp⟩ : ∃ p, q = p + 1 := ⟨q - 1, by omega⟩
      have HP := Lib.hid hp
      have e1 : IntKind.i64.wrap ((q : Int) - 1) = (p : Int) := by rw [IntKind.wrap_i64]; omega
      have q0 : (0 : Int) ≤ (q : Int) := by omega
      have p0 : (0 : Int) ≤ (p : Int) := by omega
      have q1 : (q : Int) < (t.size : Int) := by omega
      have p1 : (p : Int) < (t.size : Int) := by omega
      have hb := get_bt t
      obtain ⟨y, hy⟩ : ∃ y, (x :: r)[q]? = some y := ⟨_, List.getElem?_eq_getElem (by rw [HLN.out]; exact h8)⟩
      obtain ⟨_, b1, y1⟩ := nl_get (s := t) (k := q) (by rw [HT.out]; exact hy)
      have hxp := HR.out p (by omega)
      obtain ⟨_, b2, y2⟩ := nl_get (s := t) (k := p) (by rw [HT.out]; exact hxp)
      have hlt := asc_get HA.out (show p < q by omega) hxp hy
      have H8 := Lib.hid h8
      by_cases hx : y = x + q
      · have hxb : (bt t q == (bt t p + 1) % 256) = true := by
          rw [b1, b2]
          simp only [beq_iff_eq]
          omega
        have HR2 : Hid (∀ j, j < q + 1 → (x :: r)[j]? = some (x + j)) := Lib.hid (fun j hj => by
          by_cases e : j = q
          · subst e; rw [hy, hx]
          · exact HR.out j (by omega))
        clear hp hx hlt b1 b2 y1 y2 hxp hy
        go_wp2_with fail
        go_quiet (fail)
        clear e1 hb hxb
        go_wp2
        go_roundw
        case rel => exact ⟨q + 1, by go_num, by omega, by have := H8.out; omega, HR2, Lib.hid (grows HB.out (below_draws _ _))⟩
        case measure => have := H8.out; simp [intOf]; omega
      · have hxb : (bt t q == (bt t p + 1) % 256) = false := by
          rw [b1, b2]
          rw [beq_eq_false_iff_ne]
          omega
        have HE : Hid (N = q) := Lib.hid (by
          rw [HN.out, hp]
          congr 1
          refine runF_is (fun j hj => HR.out j (by omega)) (fun e => hx ?_)
          rw [← hp, hy] at e
          injection e with e
          omega)
        clear hp hx hlt b1 b2 y1 y2 hxp hy
        go_wp2_with fail
        go_quiet (fail)
        clear e1 hb hxb
        go_wp2
        go_ret
        exact ⟨ret_i64 (by rw [HE.out]), grows HB.out (below_draws _ _)⟩
    · have HE : Hid (N = q) := Lib.hid (by
        rw [HN.out, show q = (q - 1) + 1 by omega]
        congr 1
        refine runF_is (fun j hj => HR.out j (by omega)) (fun e => ?_)
        rw [List.getElem?_eq_none (by rw [HLN.out]; omega)] at e
        cases e)
      have hnb : decide ((q : Int) < (t.size : Int)) = false := by simp; omega
      have hnbN : decide (q < t.size) = false := by simp; omega
      clear h8 hq
      go_wp2_with fail
      go_quiet (fail)
      go_wp2
      go_ret
      exact ⟨ret_i64 (by rw [HE.out]), grows HB.out (below_draws _ _)⟩

/-- A run as it is written. -/
def runQ (b : List Nat) : List UInt8 := if 3 ≤ b.length then nota (b.getD 0 0) ++ 45 :: nota (b.getD (b.length - 1) 0) else b.flatMap nota
theorem runQ_len (b : List Nat) : (runQ b).length ≤ 9 := by
  unfold runQ
  split
  · have h1 := nota_len (b.getD 0 0)
    have h2 := nota_len (b.getD (b.length - 1) 0)
    simp only [List.length_append, List.length_cons]
    omega
  · next h =>
    match b, h with
    | [], _ => simp
    | [x], _ => have := nota_len x; simp; omega
    | [x, y], _ => have h1 := nota_len x; have h2 := nota_len y; simp; omega
    | x :: y :: z :: r, h => exact absurd (by simp) h
/-- A list is written run by run. -/
theorem lst_run (x : Nat) (r : List Nat) : lstQ (x :: r) = runQ ((x :: r).take (runF x r + 1)) ++ lstQ ((x :: r).drop (runF x r + 1)) := by
  have hle := runF_le x r
  have hget := runF_get x r
  by_cases h2 : 2 ≤ runF x r
  · have hl : ((x :: r).take (runF x r + 1)).length = runF x r + 1 := by rw [List.length_take, List.length_cons]; omega
    have e0 : ((x :: r).take (runF x r + 1)).getD 0 0 = x := by simp
    have e1 : ((x :: r).take (runF x r + 1)).getD (runF x r + 1 - 1) 0 = x + runF x r := by
      rw [List.getD_eq_getElem?_getD, List.getElem?_take, if_pos (by omega), show runF x r + 1 - 1 = runF x r by omega, hget _ (Nat.le_refl _)]; rfl
    rw [lstQ_run h2, runQ, if_pos (by omega), hl, e0, e1, List.drop_succ_cons]
    simp
  · rcases (show runF x r = 0 ∨ runF x r = 1 by omega) with h | h
    · rw [lstQ_one h2, h]
      simp [runQ]
    · rw [lstQ_one h2, h]
      match r, h, hget with
      | y :: r', h, hget =>
        have hy : y = x + 1 := by
          have := hget 1 (by omega)
          simpa using this
        subst hy
        have h0 : runF (x + 1) r' = 0 := by
          unfold runF at h
          rw [if_pos rfl] at h
          omega
        rw [lstQ_one (by omega)]
        simp [runQ]

/-- What appendByte wants of a row. -/
theorem byte_call {base : Nat} {W : World} (hbW : base ≤ W.heap.size) {L : List UInt8} (hL : L.length ≤ 100000000) {c : Nat} (hc : c < 256) (v : Value) (w : World) (h : ob base w v L) (HB : Below base W w) :
    Calls Tryd.prog 39 #[v, .int .u8 c] w (apR base W (L ++ nota c)) := appendByte_any HB hbW h hL hc

set_option maxHeartbeats 1000000 in
set_option maxRecDepth 100000 in
theorem appendRun_any {base : Nat} {W w : World} (HB : Below base W w) (hbW : base ≤ W.heap.size) {v : Value} {l : List UInt8} (h : ob base w v l) (hl : l.length ≤ 10000000) {t : ByteArray} (ht : t.size ≤ 256) :
    Calls Tryd.prog 58 #[v, .string t] w (apR base W (l ++ runQ (nl t))) := by
  by_cases h3 : 3 ≤ t.size
  · obtain ⟨x0, hx0⟩ : ∃ x, (nl t)[0]? = some x := ⟨_, List.getElem?_eq_getElem (by rw [nl_len]; omega)⟩
    obtain ⟨p, hp⟩ : ∃ p, t.size = p + 1 := ⟨t.size - 1, by omega⟩
    obtain ⟨x1, hx1⟩ : ∃ x, (nl t)[p]? = some x := ⟨_, List.getElem?_eq_getElem (by rw [nl_len]; omega)⟩
    obtain ⟨_, b0, l0⟩ := nl_get hx0
    obtain ⟨_, b1, l1⟩ := nl_get hx1
    have hq : runQ (nl t) = nota x0 ++ 45 :: nota x1 := by
      unfold runQ
      rw [if_pos (by rw [nl_len]; exact h3), nl_len, hp, show p + 1 - 1 = p by omega, List.getD_eq_getElem?_getD, List.getD_eq_getElem?_getD, hx0, hx1]; rfl
    rw [hq]
    have hn0 := nota_len x0
    have C1 := Lib.hid (byte_call hbW (show l.length ≤ 100000000 by omega) l0 v w h HB)
    have HL1 : Hid ((l ++ nota x0).length + [(45 : UInt8)].length ≤ 1000000000) := Lib.hid (by simp; omega)
    have C2 := Lib.hid (byte_call (base := base) (W := W) hbW (L := l ++ nota x0 ++ [45]) (by simp; omega) l1)
    have HG := Lib.hid hbW
    have hb := get_bt t
    have z0 : (0 : Int) < (t.size : Int) := by omega
    have z3 : (3 : Int) ≤ (t.size : Int) := by omega
    have e1 : IntKind.i64.wrap ((t.size : Int) - 1) = (p : Int) := by rw [IntKind.wrap_i64]; omega
    have p0 : (0 : Int) ≤ (p : Int) := by omega
    have p1 : (p : Int) < (t.size : Int) := by omega
    clear hq hx0 hx1 hn0 h HB hbW l0 l1
    go_enter Tryd.func58, Tryd.ntmps58
    go_wp2_with (first | (go_at_call 39; (with_reducible refine C1.out.mono ?_); rintro e w1 ⟨v1, rfl, h1, k1⟩; have H1 := Lib.hid h1; have K1 := Lib.hid k1; clear h1 k1) | (at_builtin; refine wpList_ob rfl _ _ rfl K1.out HG.out (by rfl) H1.out [45] (by rfl) rfl (by rfl) HL1.out ?_; intro v2 w2 h2 k2; have H2 := Lib.hid h2; have K2 := Lib.hid k2; clear h2 k2) | (go_at_call 39; refine (C2.out _ _ H2.out K2.out).mono ?_; rintro e w3 ⟨v3, rfl, h3, k3⟩; have H3 := Lib.hid h3; have K3 := Lib.hid k3; clear h3 k3))
    go_ret
    refine ⟨_, rfl, ?_, K3.out⟩
    have := H3.out
    simpa using this
  · have hq : runQ (nl t) = (nl t).flatMap nota := by unfold runQ; rw [if_neg (by rw [nl_len]; exact h3)]
    rw [hq]
    have HG := Lib.hid hbW
    have z3 : ¬ ((3 : Int) ≤ (t.size : Int)) := by omega
    have HO := Lib.hid h
    have HBB := Lib.hid HB
    have HL := Lib.hid hl
    clear hq h HB hbW
    go_enter Tryd.func58, Tryd.ntmps58
    go_wp2
    clear z3
    go_loopw [24, 0] (fun i v wr => ∃ k : Nat, i = .int .i64 (k : Int) ∧ k ≤ t.size ∧ Hid (ob base wr v (l ++ ((nl t).take k).flatMap nota)) ∧ Hid (Below base W wr))
      (fun i _ _ => t.size - (intOf i).toNat)
    case atStart => exact ⟨0, rfl, by omega, Lib.hid (by simpa using HO.out), HBB⟩
    case round =>
      obtain ⟨k, rfl, hk, HR, HB⟩ := hrel
      by_cases h8 : k < t.size
      · obtain ⟨x, hx⟩ : ∃ x, (nl t)[k]? = some x := ⟨_, List.getElem?_eq_getElem (by rw [nl_len]; omega)⟩
        obtain ⟨_, b0, l0⟩ := nl_get hx
        have HX : Hid (((nl t).take (k + 1)).flatMap nota = ((nl t).take k).flatMap nota ++ nota x) := Lib.hid (by
          rw [List.take_add_one, hx]; simp)
        have C1 := Lib.hid (byte_call (base := base) (W := W) HG.out (L := l ++ ((nl t).take k).flatMap nota) (by
          have h1 : (((nl t).take k).flatMap nota).length ≤ 4 * ((nl t).take k).length := by
            generalize (nl t).take k = m
            induction m with
            | nil => simp
            | cons y m ih => have := nota_len y; rw [List.flatMap_cons, List.length_append, List.length_cons]; omega
          have h2 : ((nl t).take k).length ≤ k := by rw [List.length_take]; omega
          have := HL.out
          rw [List.length_append]; omega) l0)
        have hb := get_bt t
        have k0 : (0 : Int) ≤ (k : Int) := by omega
        have k1 : (k : Int) < (t.size : Int) := by omega
        clear hx l0
        go_wp2_with (go_at_call 39; refine (C1.out _ _ HR.out HB.out).mono ?_; rintro e w1 ⟨v1, rfl, h1, k1⟩; have H1 := Lib.hid h1; have K1 := Lib.hid k1; clear h1 k1)
        go_roundw
        case rel => exact ⟨k + 1, by go_num, by omega, Lib.hid (by rw [HX.out, ← List.append_assoc]; exact H1.out), K1⟩
        case measure => simp [intOf]; omega
      · have HK := Lib.hid (show k = t.size by omega)
        have hlt : ¬ ((k : Int) < (t.size : Int)) := by omega
        clear hk h8
        go_wp2
        go_ret
        refine ⟨_, rfl, ?_, HB.out⟩
        have := HR.out
        rw [HK.out, List.take_of_length_le (by rw [nl_len]; exact Nat.le_refl _)] at this
        exact this

theorem lstQ_le (b : List Nat) : (lstQ b).length ≤ 4 * b.length := lstQ_len b.length b (Nat.le_refl _)

set_option maxHeartbeats 1000000 in
set_option maxRecDepth 100000 in
theorem appendList_any {base : Nat} {W w : World} (HB : Below base W w) (hbW : base ≤ W.heap.size) {v : Value} {l : List UInt8} (h : ob base w v l) (hl : l.length ≤ 1000) {t : ByteArray} (ht : t.size ≤ 256) (ha : asc (nl t)) :
    Calls Tryd.prog 42 #[v, .string t] w (apR base W (l ++ lstQ (nl t))) := by
  have HG := Lib.hid hbW
  have HO := Lib.hid h
  have HBB := Lib.hid HB
  have HL := Lib.hid hl
  have HA := Lib.hid ha
  have HT := Lib.hid ht
  obtain ⟨M, hM⟩ : ∃ M, M = lstQ (nl t) := ⟨_, rfl⟩
  have HM := Lib.hid hM
  rw [← hM]
  have HML : Hid (M.length ≤ 1024) := Lib.hid (by rw [hM]; have := lstQ_le (nl t); rw [nl_len] at this; omega)
  clear hM h HB hbW ha hl ht
  go_enter Tryd.func42, Tryd.ntmps42
  go_wp2
  go_loopw [1, 0] (fun s v wr => ∃ (S : ByteArray) (P : List UInt8), s = .string S ∧ S.size ≤ 256 ∧ Hid (asc (nl S)) ∧ Hid (M = P ++ lstQ (nl S)) ∧ Hid (ob base wr v (l ++ P)) ∧ Hid (Below base W wr))
    (fun s _ _ => match s with | .string S => S.size | _ => 0)
  case atStart => exact ⟨t, [], rfl, HT.out, HA, Lib.hid (by rw [HM.out]; rfl), Lib.hid (by simpa using HO.out), HBB⟩
  case round =>
    obtain ⟨S, P, rfl, hS, HAS, HP, HR, HB⟩ := hrel
    by_cases h0 : S.size = 0
    · have hn : nl S = [] := List.eq_nil_of_length_eq_zero (by rw [nl_len]; exact h0)
      have he : S.data.toList.isEmpty = true := by
        have : S.data.toList.length = 0 := by rw [← h0]; simp
        rw [List.eq_nil_of_length_eq_zero this]; rfl
      have he' : S.toList.isEmpty = true := by rw [Lib.toList_data]; exact he
      have HN := Lib.hid hn
      clear hn h0
      go_wp2
      go_ret
      refine ⟨_, rfl, ?_, HB.out⟩
      have := HR.out
      rw [HP.out, HN.out, lstQ_nil, List.append_nil]
      exact this
    · obtain ⟨x, r, hxr⟩ : ∃ x r, nl S = x :: r := by
        cases hn : nl S with
        | nil => exact absurd (by rw [← nl_len, hn]; rfl) h0
        | cons x r => exact ⟨x, r, rfl⟩
      have he : S.data.toList.isEmpty = false := by
        cases hs : S.data.toList with
        | nil => exact absurd (by rw [← nl_len, nl, hs]; rfl) h0
        | cons a b => rfl
      have he' : S.toList.isEmpty = false := by rw [Lib.toList_data]; exact he
      have HRL := Lib.hid (fun u => runLength_any hxr (by rw [← hxr]; exact HAS.out) hS u)
      obtain ⟨n, hn⟩ : ∃ n, n = runF x r + 1 := ⟨_, rfl⟩
      have hnS : n ≤ S.size := by
        rw [← nl_len, hxr, hn, List.length_cons]
        have := runF_le x r
        omega
      have hlr := lst_run x r
      rw [← hn] at HRL hlr
      obtain ⟨q1, hq1⟩ : ∃ q, q = S.extract 0 n := ⟨_, rfl⟩
      obtain ⟨q2, hq2⟩ : ∃ q, q = S.extract n S.size := ⟨_, rfl⟩
      have hs1 := fun u => cut_low (S := S) hnS u
      have hs2 := fun u => cut_high (S := S) hnS u
      rw [← hq1] at hs1
      rw [← hq2] at hs2
      have n1 : nl q1 = (x :: r).take n := by rw [hq1, nl_low, hxr]
      have n2 : nl q2 = (x :: r).drop n := by rw [hq2, nl_high, hxr]
      have z1 : q1.size ≤ 256 := by rw [← nl_len, n1, List.length_take, ← hxr, nl_len]; omega
      have z2 : q2.size + n = S.size := by rw [← nl_len, n2, List.length_drop, ← hxr, nl_len]; omega
      have HLP : Hid ((l ++ P).length ≤ 10000000) := Lib.hid (by
        have h1 := HML.out
        rw [HP.out, List.length_append] at h1
        have := HL.out
        rw [List.length_append]; omega)
      have HAR := Lib.hid (fun (v : Value) (w : World) (h : ob base w v (l ++ P)) (HB : Below base W w) => appendRun_any (t := q1) HB HG.out h HLP.out z1)
      have HP2 : Hid (M = (P ++ runQ (nl q1)) ++ lstQ (nl q2)) := Lib.hid (by rw [HP.out, hxr, hlr, n1, n2, List.append_assoc])
      have HA2 : Hid (asc (nl q2)) := Lib.hid (by rw [n2]; exact asc_drop (by rw [← hxr]; exact HAS.out) _)
      have hn1 : 1 ≤ n := by omega
      have HZ2 := Lib.hid z2
      have HN1 := Lib.hid hn1
      have HS2 := Lib.hid hS
      clear hlr hq1 hq2 n1 n2 z1 hxr hn h0 hnS z2 hn1
      go_wp2_with (first | (go_at_call 57; refine (HRL.out _).mono ?_; rintro e w1 ⟨rfl, k1⟩; have K1 := Lib.hid k1; clear k1) | (go_at_call 58; refine (HAR.out _ _ (HR.out.below K1.out) (HB.out.trans (K1.out.mono (Nat.le_trans HG.out HB.out.size)))).mono ?_; rintro e w2 ⟨v2, rfl, h2, k2⟩; have H2 := Lib.hid h2; have K2 := Lib.hid k2; clear h2 k2))
      go_roundw
      case rel => exact ⟨q2, P ++ runQ (nl q1), rfl, by have := HZ2.out; have := HS2.out; omega, HA2, HP2, Lib.hid (by rw [← List.append_assoc]; exact H2.out), K2⟩
      case measure => have := HZ2.out; have := HN1.out; show q2.size < S.size; omega
end Go.Proofs.YtabcehifdomolaaDoor.Th
