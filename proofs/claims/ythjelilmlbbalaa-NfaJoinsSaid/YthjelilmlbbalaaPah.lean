/-
  strings.IndexByte in the list of masked bytes; appendByte: a byte's notation behind a row of bytes.
  runLength, appendRun, appendList: a list of bytes as it is shown.
  Conditions: as each theorem says.
-/
import Derived.Test.YthjelilmlbbalaaPaf
import Derived.Test.YthjelilmlbbalaaPab
import Derived.Test.YthjelilmlbbalaaPag
import Derived.Shelf.Strings.Search1
import Derived.Deep.RegionWith
import Derived.Deep.RegionLaw
import Derived.BigQuiet
import Derived.PlainAid
namespace Go.Proofs.Ythjelilmlbbalaa.Tg
open Go.RowKit Go.PlainAid Go.Proofs.Ythjelilmlbbalaa.Vm Go.Proofs.Ythjelilmlbbalaa.Vo Go.Proofs.Ythjelilmlbbalaa.Bw Go.Proofs.Ythjelilmlbbalaa.Ba Go.Proofs.Ythjelilmlbbalaa.Na Go.Proofs.Ythjelilmlbbalaa.Tm Go.Proofs.Ythjelilmlbbalaa.Ts Go.Proofs.Ythjelilmlbbalaa.Ta Go.Proofs.Ythjelilmlbbalaa.Tb Go.Proofs.Ythjelilmlbbalaa.Td

def maskB : ByteArray := ⟨#[92, 91, 93, 40, 41, 123, 125, 42, 43, 63, 124, 46, 45, 94, 47, 34]⟩
def ixM (c : Nat) : Int := Lib.indexByte maskB.data.toList c.toUInt8
theorem ixM_is : ∀ c < 256, (0 ≤ ixM c ↔ c ∈ maskL) := by decide +kernel
theorem mask_range : ∀ c ∈ maskL, 32 < c ∧ c < 127 := by decide

/-- 'append(v, s...)'. -/
theorem wpList_obs {ops : Array Oper} {rest : List Oper} {o : Oper} {a : Act} {Q : Exit → Act → World → Prop} (hgd : o.guard = none) (sl x : Operand)
    (ho : o.op = .call { callee := .builtin .append, args := #[sl, x], argTypes := #[141, 9] }) {base : Nat} {W w : World} (HB : Below base W w) (hbW : base ≤ W.heap.size)
    {v : Value} {l : List UInt8} (hs : a.eval sl = v) (hown : ob base w v l) (s : ByteArray) (hx : a.eval x = .string s) (hlen : l.length + s.size ≤ 1000000000)
    (h : ∀ v' w', ob base w' v' (l ++ s.data.toList) → Below base W w' → wpList Try.prog ops Q rest (a.put o.dst v') w') : wpList Try.prog ops Q (o :: rest) a w := by
  obtain ⟨i0, hi, hz0, hz1, hz2⟩ := info_parts infoU
  have hsz := HB.size
  refine wpList_str_at w hgd sl x 141 9 ho base 5 i0 Try.underlying141 Try.underlying9 hi hz0 hz1 hz2 v l.length (Bs l) hs hown s hx (by unfold maxLen; omega) (by omega) (by omega) (fun v' w' h2 h3 _ => h v' w' ?_ ?_)
  · have e : Lib.strCells s = Bs s.data.toList := rfl
    have : w'.ownsRow base 5 1 v' (l ++ s.data.toList).length (Bs (l ++ s.data.toList)) := by
      rw [List.length_append, ← Bs_append, ← e, show s.data.toList.length = s.size by simp]
      exact h2
    exact this
  · exact HB.grown h3 (by omega) (fun k hk => (World.ownsRow.lt hown k hk).1)
/-- 'append(v, b1, b2, ..)' at a step of a region that draws. -/
theorem step_ob {ops : Array Oper} {o : Oper} {a : Act} {K : Act → World → Prop} {Q : Exit → Act → World → Prop} {E : Prop} (hgd : o.guard = none) (s x : Operand)
    (ho : o.op = .call { callee := .builtin .append, args := #[s, x], argTypes := #[141, 141] }) {base g : Nat} {W w : World} (HB : Below base W w) (hbW : base ≤ W.heap.size)
    {v : Value} {l : List UInt8} (hs : a.eval s = v) (hown : ob base w v l) {cs : Array Value} (hb : Blk w g 5 cs) (c : List UInt8) (hcs : cs = (Bs c).toArray) {m k : Nat} (hm : m = c.length) (hx : a.eval x = .slice (some ⟨g, 0, none⟩) m k)
    (hlen : l.length + c.length ≤ 1000000000)
    (h : ∀ v' w', ob base w' v' (l ++ c) → Below base W w' → K (a.put o.dst v') w') : if Region.wanted o (yielded ops a.tmps) = true then Oper.wp Try.prog o a w K Q else E := by
  have hw : Region.wanted o (yielded ops a.tmps) = true := by simp [Region.wanted, hgd]
  rw [if_pos hw]
  obtain ⟨i0, hi, hz0, hz1, hz2⟩ := info_parts infoU
  have hsz := HB.size
  refine wp_append_own w s x 141 ho base 5 i0 (.int .u8 0) 1 1 Try.underlying141 hi hz0 hz1 hz2 rfl (by decide) v l.length (Bs l) hs hown ⟨g, 0, none⟩ m k (Bs c) hx (by rw [Bs_length, hm, Nat.mul_one]) (fun j u hj => ?_) (Bs_one c) (by unfold maxLen; omega) (by omega) (by omega) (fun v' w' h2 h3 _ => h v' w' ?_ ?_)
  · rw [show ((⟨g, 0, none⟩ : Addr).add j) = ⟨g, j, none⟩ by unfold Addr.add; split <;> simp_all, hb.cell, hcs]
    simpa using hj
  · have : w'.ownsRow base 5 1 v' (l ++ c).length (Bs (l ++ c)) := by
      rw [List.length_append, ← Bs_append, ← hm]; exact h2
    exact this
  · exact HB.grown h3 (by omega) (fun k hk => (World.ownsRow.lt hown k hk).1)

def hexB : ByteArray := ⟨#[48, 49, 50, 51, 52, 53, 54, 55, 56, 57, 97, 98, 99, 100, 101, 102]⟩
theorem hexB_get : ∀ k < 16, hexB.data.toList[k]? = some (hexd k) := by decide
theorem bt_hex : ∀ k < 16, bt hexB k = ((hexd k).toNat : Int) := by decide +kernel
def apR (base : Nat) (W : World) (l : List UInt8) (e : Ending) (w' : World) : Prop := ∃ v', e = .returned v' ∧ ob base w' v' l ∧ Below base W w'

end Go.Proofs.Ythjelilmlbbalaa.Tg
namespace Go.Proofs.Ythjelilmlbbalaa.Th
open Go.RowKit Go.PlainAid Go.Proofs.Ythjelilmlbbalaa.Vm Go.Proofs.Ythjelilmlbbalaa.Vo Go.Proofs.Ythjelilmlbbalaa.Bw Go.Proofs.Ythjelilmlbbalaa.Ba Go.Proofs.Ythjelilmlbbalaa.Na Go.Proofs.Ythjelilmlbbalaa.Tm Go.Proofs.Ythjelilmlbbalaa.Ts Go.Proofs.Ythjelilmlbbalaa.Ta Go.Proofs.Ythjelilmlbbalaa.Tb Go.Proofs.Ythjelilmlbbalaa.Td Go.Proofs.Ythjelilmlbbalaa.Tg

/-- A string's bytes as numbers. -/
def nl (s : ByteArray) : List Nat := s.data.toList.map (·.toNat)
theorem nl_len (s : ByteArray) : (nl s).length = s.size := by simp [nl]
theorem nl_get {s : ByteArray} {k x : Nat} (h : (nl s)[k]? = some x) : k < s.size ∧ bt s k = (x : Int) ∧ x < 256 := by
  have hk : k < s.size := by rw [← nl_len]; exact (List.getElem?_eq_some_iff.1 h).1
  refine ⟨hk, ?_⟩
  unfold nl at h
  rw [List.getElem?_map] at h
  obtain ⟨b, hb, he⟩ := Option.map_eq_some_iff.1 h
  have hb2 : s[k] = b := by
    have : s.data.toList[k]? = some (s[k]) := by rw [Array.getElem?_toList]; exact Array.getElem?_eq_getElem hk
    rw [this] at hb; injection hb
  refine ⟨?_, by rw [← he]; exact b.toNat_lt⟩
  unfold bt
  rw [dif_pos hk, hb2, ← he]
def asc (l : List Nat) : Prop := l.Pairwise (· < ·)
theorem asc_get {l : List Nat} (h : asc l) {i j x y : Nat} (hij : i < j) (hx : l[i]? = some x) (hy : l[j]? = some y) : x < y := by
  obtain ⟨h1, e1⟩ := List.getElem?_eq_some_iff.1 hx
  obtain ⟨h2, e2⟩ := List.getElem?_eq_some_iff.1 hy
  rw [← e1, ← e2]
  exact List.pairwise_iff_getElem.1 h i j h1 h2 hij
theorem asc_drop {l : List Nat} (h : asc l) (k : Nat) : asc (l.drop k) := List.Pairwise.sublist (List.drop_sublist k l) h

theorem cut_low {S : ByteArray} {k : Nat} (h : k ≤ S.size) (u : World) : (Instr.slice 9 (.string S) none (some (.int .i64 (k : Int))) none).run Try.prog u = .ok (.string (S.extract 0 k)) u := by
  have e := run_slice_string_h (P := Try.prog) (w := u) (t := 9) (s := S) Try.underlying9 .i64 (k : Int) (by omega) (by omega)
  simpa using e
theorem cut_high {S : ByteArray} {k : Nat} (h : k ≤ S.size) (u : World) : (Instr.slice 9 (.string S) (some (.int .i64 (k : Int))) none none).run Try.prog u = .ok (.string (S.extract k S.size)) u := by
  have e := run_slice_string_l (P := Try.prog) (w := u) (t := 9) (s := S) Try.underlying9 .i64 (k : Int) (by omega) (by omega)
  simpa using e
theorem nl_low (S : ByteArray) (k : Nat) : nl (S.extract 0 k) = (nl S).take k := by
  unfold nl
  rw [ByteArray.data_extract, Array.toList_extract, List.extract_eq_take_drop, List.map_take]
  simp
theorem nl_high (S : ByteArray) (k : Nat) : nl (S.extract k S.size) = (nl S).drop k := by
  unfold nl
  rw [ByteArray.data_extract, Array.toList_extract, List.extract_eq_take_drop]
  simp [List.map_drop, List.take_of_length_le]

/-- A run as it is written. -/
def runQ (b : List Nat) : List UInt8 := if 3 ≤ b.length then nota (b.getD 0 0) ++ 45 :: nota (b.getD (b.length - 1) 0) else b.flatMap nota
theorem runQ_len (b : List Nat) : (runQ b).length ≤ 9 := by
  unfold runQ
  split
  · have h1 := nota_len (b.getD 0 0)
    have h2 := nota_len (b.getD (b.length - 1) 0)
    simp only [List.length_append, List.length_cons]
    omega
  · next h =>
    match b, h with
    | [], _ => simp
    | [x], _ => have := nota_len x; simp; omega
    | [x, y], _ => have h1 := nota_len x; have h2 := nota_len y; simp; omega
    | x :: y :: z :: r, h => exact absurd (by simp) h
/-- A list is written run by run. -/
theorem lst_run (x : Nat) (r : List Nat) : lstQ (x :: r) = runQ ((x :: r).take (runF x r + 1)) ++ lstQ ((x :: r).drop (runF x r + 1)) := by
  have hle := runF_le x r
  have hget := runF_get x r
  by_cases h2 : 2 ≤ runF x r
  · have hl : ((x :: r).take (runF x r + 1)).length = runF x r + 1 := by rw [List.length_take, List.length_cons]; omega
    have e0 : ((x :: r).take (runF x r + 1)).getD 0 0 = x := by simp
    have e1 : ((x :: r).take (runF x r + 1)).getD (runF x r + 1 - 1) 0 = x + runF x r := by
      rw [List.getD_eq_getElem?_getD, List.getElem?_take, if_pos (by omega), show runF x r + 1 - 1 = runF x r by omega, hget _ (Nat.le_refl _)]; rfl
    rw [lstQ_run h2, runQ, if_pos (by omega), hl, e0, e1, List.drop_succ_cons]
    simp
  · rcases (show runF x r = 0 ∨ runF x r = 1 by omega) with h | h
    · rw [lstQ_one h2, h]
      simp [runQ]
    · rw [lstQ_one h2, h]
      match r, h, hget with
      | y :: r', h, hget =>
        have hy : y = x + 1 := by
          have := hget 1 (by omega)
          simpa using this
        subst hy
        have h0 : runF (x + 1) r' = 0 := by
          unfold runF at h
          rw [if_pos rfl] at h
          omega
        rw [lstQ_one (by omega)]
        simp [runQ]

theorem lstQ_le (b : List Nat) : (lstQ b).length ≤ 4 * b.length := lstQ_len b.length b (Nat.le_refl _)

end Go.Proofs.Ythjelilmlbbalaa.Th
