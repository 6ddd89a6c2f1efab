/-
  strings.IndexByte in the list of masked bytes; appendByte: a byte's notation behind a row of bytes.
  Conditions: as each theorem says.
-/
import Derived.Test.YtdbeohfaaonbjaaTd
import Derived.Test.YtdbeohfaaonbjaaTs
import Derived.Test.YtdbeohfaaonbjaaBa
import Derived.Shelf.Strings.Search1
import Derived.Deep.RegionWith
import Derived.Deep.RegionLaw
import Derived.BigQuiet
import Derived.PlainAid
namespace Go.Proofs.Ytdbeohfaaonbjaa.Tg
open Go.RowKit Go.PlainAid Go.Proofs.Ytdbeohfaaonbjaa.Vm Go.Proofs.Ytdbeohfaaonbjaa.Vo Go.Proofs.Ytdbeohfaaonbjaa.Bw Go.Proofs.Ytdbeohfaaonbjaa.Ba Go.Proofs.Ytdbeohfaaonbjaa.Na Go.Proofs.Ytdbeohfaaonbjaa.Tm Go.Proofs.Ytdbeohfaaonbjaa.Ts Go.Proofs.Ytdbeohfaaonbjaa.Ta Go.Proofs.Ytdbeohfaaonbjaa.Tb Go.Proofs.Ytdbeohfaaonbjaa.Td

def ren : Shelf.Ren := ⟨fun | 217 => 36 | _ => 37, fun | 3 => 3 | 5 => 5 | _ => 9, fun x => x⟩
theorem lays : Lays.n217 Try.prog ren := by
  constructor <;> (intros; kernel_rfl)
def maskB : ByteArray := ⟨#[92, 91, 93, 40, 41, 123, 125, 42, 43, 63, 124, 46, 45, 94, 47, 34]⟩
def ixM (c : Nat) : Int := Lib.indexByte maskB.data.toList c.toUInt8
theorem Index_any (c : Nat) (w : World) :
    Calls Try.prog 32 #[.string maskB, .int .u8 c] w fun e w' => e = .returned (.int .i64 (ixM c)) ∧ w = w' := by
  have HI : Hid (∀ w, Calls Try.prog 36 #[.string maskB, .int .u8 c] w fun e w' => e = .returned (.int .i64 (ixM c)) ∧ w = w') := Lib.hid fun w => (Any.stringslite_IndexByte lays maskB (c : Int) w).mono fun _ _ ⟨h, k⟩ => ⟨h, k.symm⟩
  generalize ixM c = m at *
  generalize maskB = s at *
  go_enter Try.func32, Try.ntmps32
  go_wp2_with (go_at_call 36; refine (HI.out _).mono ?_; rintro e w' ⟨rfl, rfl⟩)
  go_ret
  exact ⟨rfl, rfl⟩
theorem ixM_is : ∀ c < 256, (0 ≤ ixM c ↔ c ∈ maskL) := by decide +kernel
theorem mask_range : ∀ c ∈ maskL, 32 < c ∧ c < 127 := by decide

/-- 'append(v, s...)'. -/
theorem wpList_obs {ops : Array Oper} {rest : List Oper} {o : Oper} {a : Act} {Q : Exit → Act → World → Prop} (hgd : o.guard = none) (sl x : Operand)
    (ho : o.op = .call { callee := .builtin .append, args := #[sl, x], argTypes := #[41, 9] }) {base : Nat} {W w : World} (HB : Below base W w) (hbW : base ≤ W.heap.size)
    {v : Value} {l : List UInt8} (hs : a.eval sl = v) (hown : ob base w v l) (s : ByteArray) (hx : a.eval x = .string s) (hlen : l.length + s.size ≤ 1000000000)
    (h : ∀ v' w', ob base w' v' (l ++ s.data.toList) → Below base W w' → wpList Try.prog ops Q rest (a.put o.dst v') w') : wpList Try.prog ops Q (o :: rest) a w := by
  obtain ⟨i0, hi, hz0, hz1, hz2⟩ := info_parts infoU
  have hsz := HB.size
  refine wpList_str_at w hgd sl x 41 9 ho base 5 i0 Try.underlying41 Try.underlying9 hi hz0 hz1 hz2 v l.length (Bs l) hs hown s hx (by unfold maxLen; omega) (by omega) (by omega) (fun v' w' h2 h3 _ => h v' w' ?_ ?_)
  · have e : Lib.strCells s = Bs s.data.toList := rfl
    have : w'.ownsRow base 5 1 v' (l ++ s.data.toList).length (Bs (l ++ s.data.toList)) := by
      rw [List.length_append, ← Bs_append, ← e, show s.data.toList.length = s.size by simp]
      exact h2
    exact this
  · exact HB.grown h3 (by omega) (fun k hk => (World.ownsRow.lt hown k hk).1)
/-- 'append(v, b1, b2, ..)' at a step of a region that draws. -/
theorem step_ob {ops : Array Oper} {o : Oper} {a : Act} {K : Act → World → Prop} {Q : Exit → Act → World → Prop} {E : Prop} (hgd : o.guard = none) (s x : Operand)
    (ho : o.op = .call { callee := .builtin .append, args := #[s, x], argTypes := #[41, 41] }) {base g : Nat} {W w : World} (HB : Below base W w) (hbW : base ≤ W.heap.size)
    {v : Value} {l : List UInt8} (hs : a.eval s = v) (hown : ob base w v l) {cs : Array Value} (hb : Blk w g 5 cs) (c : List UInt8) (hcs : cs = (Bs c).toArray) {m k : Nat} (hm : m = c.length) (hx : a.eval x = .slice (some ⟨g, 0, none⟩) m k)
    (hlen : l.length + c.length ≤ 1000000000)
    (h : ∀ v' w', ob base w' v' (l ++ c) → Below base W w' → K (a.put o.dst v') w') : if Region.wanted o (yielded ops a.tmps) = true then Oper.wp Try.prog o a w K Q else E := by
  have hw : Region.wanted o (yielded ops a.tmps) = true := by simp [Region.wanted, hgd]
  rw [if_pos hw]
  obtain ⟨i0, hi, hz0, hz1, hz2⟩ := info_parts infoU
  have hsz := HB.size
  refine wp_append_own w s x 41 ho base 5 i0 (.int .u8 0) 1 1 Try.underlying41 hi hz0 hz1 hz2 rfl (by decide) v l.length (Bs l) hs hown ⟨g, 0, none⟩ m k (Bs c) hx (by rw [Bs_length, hm, Nat.mul_one]) (fun j u hj => ?_) (Bs_one c) (by unfold maxLen; omega) (by omega) (by omega) (fun v' w' h2 h3 _ => h v' w' ?_ ?_)
  · rw [show ((⟨g, 0, none⟩ : Addr).add j) = ⟨g, j, none⟩ by unfold Addr.add; split <;> simp_all, hb.cell, hcs]
    simpa using hj
  · have : w'.ownsRow base 5 1 v' (l ++ c).length (Bs (l ++ c)) := by
      rw [List.length_append, ← Bs_append, ← hm]; exact h2
    exact this
  · exact HB.grown h3 (by omega) (fun k hk => (World.ownsRow.lt hown k hk).1)

def hexB : ByteArray := ⟨#[48, 49, 50, 51, 52, 53, 54, 55, 56, 57, 97, 98, 99, 100, 101, 102]⟩
theorem hexB_get : ∀ k < 16, hexB.data.toList[k]? = some (hexd k) := by decide
theorem bt_hex : ∀ k < 16, bt hexB k = ((hexd k).toNat : Int) := by decide +kernel
def apR (base : Nat) (W : World) (l : List UInt8) (e : Ending) (w' : World) : Prop := ∃ v', e = .returned v' ∧ ob base w' v' l ∧ Below base W w'

set_option maxRecDepth 100000 in
theorem appendByte_any {base : Nat} {W w : World} (HB : Below base W w) (hbW : base ≤ W.heap.size) {v : Value} {l : List UInt8} (h : ob base w v l) (hl : l.length ≤ 100000000) {c : Nat} (hc : c < 256) :
    Calls Try.prog 29 #[v, .int .u8 c] w (apR base W (l ++ nota c)) := by
  have HL : Hid (l.length ≤ 100000000) := Lib.hid hl
  have HO := Lib.hid h
  have HG := Lib.hid hbW
  have HBB := Lib.hid HB
  clear h hl hbW HB
  by_cases h10 : c = 10
  · subst h10
    have HN : Hid (nota 10 = [92, 110]) := Lib.hid (by decide)
    rw [HN.out]
    go_enter Try.func29, Try.ntmps29
    go_wp2_with (at_builtin; refine wpList_obs rfl _ _ rfl HBB.out HG.out (by rfl) HO.out ⟨#[92, 110]⟩ (by rfl) (by have := HL.out; show _ + 2 ≤ _; omega) ?_; intro v2 w2 h2 b2; have H2 := Lib.hid h2; have B2 := Lib.hid b2; clear h2 b2)
    go_ret
    exact ⟨_, rfl, H2.out, B2.out⟩
  by_cases h9 : c = 9
  · subst h9
    have HN : Hid (nota 9 = [92, 116]) := Lib.hid (by decide)
    rw [HN.out]
    go_enter Try.func29, Try.ntmps29
    go_wp2_with (at_builtin; refine wpList_obs rfl _ _ rfl HBB.out HG.out (by rfl) HO.out ⟨#[92, 116]⟩ (by rfl) (by have := HL.out; show _ + 2 ≤ _; omega) ?_; intro v2 w2 h2 b2; have H2 := Lib.hid h2; have B2 := Lib.hid b2; clear h2 b2)
    go_ret
    exact ⟨_, rfl, H2.out, B2.out⟩
  by_cases h32 : c = 32
  · subst h32
    have HN : Hid (nota 32 = [92, 115]) := Lib.hid (by decide)
    rw [HN.out]
    go_enter Try.func29, Try.ntmps29
    go_wp2_with (at_builtin; refine wpList_obs rfl _ _ rfl HBB.out HG.out (by rfl) HO.out ⟨#[92, 115]⟩ (by rfl) (by have := HL.out; show _ + 2 ≤ _; omega) ?_; intro v2 w2 h2 b2; have H2 := Lib.hid h2; have B2 := Lib.hid b2; clear h2 b2)
    go_ret
    exact ⟨_, rfl, H2.out, B2.out⟩
  have d10 : ((c : Int) == 10) = false := by simp; omega
  have d9 : ((c : Int) == 9) = false := by simp; omega
  have d32 : ((c : Int) == 32) = false := by simp; omega
  by_cases hr : 32 < c ∧ c < 127
  · have hr1 : ¬ ((c : Int) < 32) := by omega
    have hr2 : ¬ (126 < (c : Int)) := by omega
    have HC : Hid (Value.int .u8 (c : Int) = B (UInt8.ofNat c)) := Lib.hid (byte_val hc)
    by_cases hm : c ∈ maskL
    · have HN : Hid (nota c = [92, UInt8.ofNat c]) := Lib.hid (by unfold nota; rw [if_neg h10, if_neg h9, if_neg h32, if_pos hm])
      rw [HN.out]
      have hi := (ixM_is c hc).2 hm
      have HI : Hid (∀ w, Calls Try.prog 32 #[.string maskB, .int .u8 c] w fun e w' => e = .returned (.int .i64 (ixM c)) ∧ w = w') := Lib.hid fun w => Index_any c w
      generalize ixM c = m at *
      have HA : Hid (#[Value.int .u8 92, Value.int .u8 (c : Int)] = (Bs [92, UInt8.ofNat c]).toArray) := Lib.hid (by rw [HC.out]; rfl)
      clear hr h10 h9 h32 hm hc
      go_enter Try.func29, Try.ntmps29
      go_wp2_with (first | (go_at_call 32; refine (HI.out _).mono ?_; rintro e w' ⟨rfl, rfl⟩) | (at_builtin; refine wpList_ob rfl _ _ rfl HBB.out HG.out (by rfl) HO.out [92, UInt8.ofNat c] HA.out rfl (by rfl) (by have := HL.out; show _ + 2 ≤ _; omega) ?_; intro v2 w2 h2 b2; have H2 := Lib.hid h2; have B2 := Lib.hid b2; clear h2 b2))
      go_ret
      exact ⟨_, rfl, H2.out, B2.out⟩
    · have HN : Hid (nota c = [UInt8.ofNat c]) := Lib.hid (by unfold nota; rw [if_neg h10, if_neg h9, if_neg h32, if_neg hm, if_pos hr])
      rw [HN.out]
      have hi : ¬ (0 ≤ ixM c) := fun h => hm ((ixM_is c hc).1 h)
      have HI : Hid (∀ w, Calls Try.prog 32 #[.string maskB, .int .u8 c] w fun e w' => e = .returned (.int .i64 (ixM c)) ∧ w = w') := Lib.hid fun w => Index_any c w
      generalize ixM c = m at *
      have HA : Hid (#[Value.int .u8 (c : Int)] = (Bs [UInt8.ofNat c]).toArray) := Lib.hid (by rw [HC.out]; rfl)
      clear hr h10 h9 h32 hm hc
      go_enter Try.func29, Try.ntmps29
      go_wp2_with (first | (go_at_call 32; refine (HI.out _).mono ?_; rintro e w' ⟨rfl, rfl⟩) | (at_builtin; refine wpList_ob rfl _ _ rfl HBB.out HG.out (by rfl) HO.out [UInt8.ofNat c] HA.out rfl (by rfl) (by have := HL.out; show _ + 1 ≤ _; omega) ?_; intro v2 w2 h2 b2; have H2 := Lib.hid h2; have B2 := Lib.hid b2; clear h2 b2))
      go_ret
      exact ⟨_, rfl, H2.out, B2.out⟩
  · have hm : c ∉ maskL := fun h => hr (mask_range c h)
    have HN : Hid (nota c = [92, 120, hexd (c / 16), hexd (c % 16)]) := Lib.hid (by unfold nota; rw [if_neg h10, if_neg h9, if_neg h32, if_neg hm, if_neg hr])
    rw [HN.out]
    obtain ⟨q, hq⟩ : ∃ q, q = c / 16 := ⟨_, rfl⟩
    obtain ⟨r, hrr⟩ : ∃ r, r = c % 16 := ⟨_, rfl⟩
    have hq16 : q < 16 := by omega
    have hr16 : r < 16 := by omega
    have e1 : (c : Int) / 16 = (q : Int) := by omega
    have e2 : (c : Int) % 16 = (r : Int) := by omega
    have e2' : (c : Int).tmod 16 = (r : Int) := by rw [Int.tmod_eq_emod_of_nonneg (by omega)]; exact e2
    have f1 : (q : Int) < 16 := by omega
    have f2 : (r : Int) < 16 := by omega
    rw [← hq, ← hrr]
    have x1 : bt ⟨#[48, 49, 50, 51, 52, 53, 54, 55, 56, 57, 97, 98, 99, 100, 101, 102]⟩ q = ((hexd q).toNat : Int) := bt_hex q hq16
    have x2 : bt ⟨#[48, 49, 50, 51, 52, 53, 54, 55, 56, 57, 97, 98, 99, 100, 101, 102]⟩ r = ((hexd r).toNat : Int) := bt_hex r hr16
    have y1 : IntKind.u8.wrap (q : Int) = (q : Int) := by rw [IntKind.wrap_u8']; omega
    have y2 : IntKind.u8.wrap (r : Int) = (r : Int) := by rw [IntKind.wrap_u8']; omega
    generalize hexd q = u1 at *
    generalize hexd r = u2 at *
    have hb := get_bt ⟨#[48, 49, 50, 51, 52, 53, 54, 55, 56, 57, 97, 98, 99, 100, 101, 102]⟩
    have HA : Hid (#[Value.int .u8 92, Value.int .u8 120, Value.int .u8 (u1.toNat : Int), Value.int .u8 (u2.toNat : Int)] = (Bs [92, 120, u1, u2]).toArray) := Lib.hid rfl
    have h3 : c < 32 ∨ 126 < c := by omega
    clear hr h10 h9 h32 hm hc hq hrr
    have HS : Hid (base ≤ w.heap.size) := Lib.hid (Nat.le_trans HG.out HBB.out.size)
    rcases h3 with h3 | h3
    · have h3' : (c : Int) < 32 := by omega
      clear h3
      go_enter Try.func29, Try.ntmps29
      go_wp2
      go_region_law (go_loud (refine step_ob rfl _ _ rfl (below_drew (HBB.out.alloc HS.out _)) HG.out (by rfl) (show ob base (w.alloc _).drew v l from World.ownsRow.alloc HO.out _) (show Blk (w.alloc _).drew w.heap.size 5 _ from Blk.fresh w _ _) [92, 120, u1, u2] HA.out rfl (by rfl) (by have := HL.out; show _ + 4 ≤ _; omega) ?_); intro v2 w2 h2 b2; have H2 := Lib.hid h2; have B2 := Lib.hid b2; clear h2 b2)
      all_goals go_wp2
      all_goals exact bodyPost_ret (v := v2) ((results_tmp (t := 4) rfl _ _ _).trans (by rfl)) rfl ⟨_, rfl, H2.out, B2.out⟩
    · have h3' : 126 < (c : Int) := by omega
      have h4' : ¬ ((c : Int) < 32) := by omega
      clear h3
      go_enter Try.func29, Try.ntmps29
      go_wp2
      go_region_law (go_loud (refine step_ob rfl _ _ rfl (below_drew (HBB.out.alloc HS.out _)) HG.out (by rfl) (show ob base (w.alloc _).drew v l from World.ownsRow.alloc HO.out _) (show Blk (w.alloc _).drew w.heap.size 5 _ from Blk.fresh w _ _) [92, 120, u1, u2] HA.out rfl (by rfl) (by have := HL.out; show _ + 4 ≤ _; omega) ?_); intro v2 w2 h2 b2; have H2 := Lib.hid h2; have B2 := Lib.hid b2; clear h2 b2)
      all_goals go_wp2
      all_goals exact bodyPost_ret (v := v2) ((results_tmp (t := 4) rfl _ _ _).trans (by rfl)) rfl ⟨_, rfl, H2.out, B2.out⟩
end Go.Proofs.Ytdbeohfaaonbjaa.Tg
