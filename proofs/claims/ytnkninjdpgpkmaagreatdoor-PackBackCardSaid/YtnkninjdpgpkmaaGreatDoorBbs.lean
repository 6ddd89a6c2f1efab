/-
  block's sequence of lengths: previous, repeat, add, read: what they append is what the numbers say.
  block's sequence of lengths: repeat, where it appends.
  block's sequence of lengths: add.
  block's sequence of lengths: read: what is wrong, or the lengths, with the reader behind them.
  The statements' own read and known(); block.Read of no reader; a head handed over (given, light).
  Conditions: as each theorem says.
-/
import Derived.Test.YtnkninjdpgpkmaaGreatDoorBaz
import Derived.Test.YtnkninjdpgpkmaaGreatDoorBbh
import Derived.Deep.AppendLies
namespace Go.Proofs.YtnkninjdpgpkmaaGreatDoor.Kq
open Go.RowKit Go.Proofs.YtnkninjdpgpkmaaGreatDoor.Vm Go.Proofs.YtnkninjdpgpkmaaGreatDoor.Vo Go.Proofs.YtnkninjdpgpkmaaGreatDoor.Bw Go.Proofs.YtnkninjdpgpkmaaGreatDoor.Bm Go.Proofs.YtnkninjdpgpkmaaGreatDoor.Br Go.Proofs.YtnkninjdpgpkmaaGreatDoor.Bs Go.Proofs.YtnkninjdpgpkmaaGreatDoor.Na Go.Proofs.YtnkninjdpgpkmaaGreatDoor.Nf Go.Proofs.YtnkninjdpgpkmaaGreatDoor.Nm Go.Proofs.YtnkninjdpgpkmaaGreatDoor.Pm Go.Proofs.YtnkninjdpgpkmaaGreatDoor.Pg Go.Proofs.YtnkninjdpgpkmaaGreatDoor.Ph Go.Proofs.YtnkninjdpgpkmaaGreatDoor.Ko Go.Proofs.YtnkninjdpgpkmaaGreatDoor.Ka Go.Proofs.YtnkninjdpgpkmaaGreatDoor.Kb Go.Proofs.YtnkninjdpgpkmaaGreatDoor.Km Go.Proofs.YtnkninjdpgpkmaaGreatDoor.Kc Go.Proofs.YtnkninjdpgpkmaaGreatDoor.Kd Go.Proofs.YtnkninjdpgpkmaaGreatDoor.Ke

/-- A sequence in memory: its reader r, its table t, the lengths l so far, n of all. All but the reader lies from base on. -/
structure sq (base : Nat) (w : World) (q r t : Nat) (v : Value) (l : List Nat) (n : Nat) : Prop where
  b : Blk w q 232 #[.pointer (some ⟨r, 0, none⟩), .pointer (some ⟨t, 0, none⟩), v, .int .i64 (n : Int)]
  o : ints w base 3 v (ofN l)
  g0 : base ≤ q
/-- The reader, and what lies from base on. -/
def Sx (base r : Nat) (k : Nat) : Prop := k = r ∨ base ≤ k

section
variable {base : Nat} {w w' : World} {q r t : Nat} {v : Value} {l : List Nat} {n : Nat}
theorem sq.below (h : sq base w q r t v l n) (k : Below w.heap.size w w') : sq base w' q r t v l n := ⟨h.b.below k, h.o.below k, h.g0⟩
theorem sq.reader {s : ByteArray} {a : Nat} (h : sq base w q r t v l n) (hr : rd w r s a) (k : Only (At r) w w') : sq base w' q r t v l n :=
  ⟨h.b.only k (fun e => Blk.apart h.b hr (by decide) e), h.o.only k (fun i hi e => own_apart h.o hr (by decide) i hi e), h.g0⟩
theorem sq.form (h : sq base w q r t v l n) : ∃ A c, v = .slice A l.length c := by
  obtain ⟨A, c, e⟩ := h.o.form
  rw [ofN_length] at e
  exact ⟨A, c, e⟩

theorem previous_any {A : Option Addr} {m c : Nat} (h : sq base w q r t (.slice A m c) l n) : Calls Tryz.prog 188 #[.pointer (some ⟨q, 0, none⟩)] w fun e w' => e = .returned (.int .i64 (if l = [] then -1 else ((nth l (l.length - 1) : Nat) : Int))) ∧ ∃ d, w' = w.drewN d := by
  have hm : m = l.length := by obtain ⟨A', c', e⟩ := h.form; injection e
  have c2 : w.cell? ⟨q, 2, none⟩ = some (.slice A m c) := h.b.cell 2
  by_cases hl : l = []
  · subst hl
    obtain rfl : m = 0 := hm
    rw [if_pos rfl]
    go_enter Tryz.func188, Tryz.ntmps188
    go_wp2
    go_ret
    exact ⟨rfl, 0, rfl⟩
  · rw [if_neg hl]
    have hpos : 0 < l.length := List.length_pos_iff.2 hl
    obtain ⟨x, hx⟩ : ∃ x, x = nth l (l.length - 1) := ⟨_, rfl⟩
    have hr := h.o.row
    rw [ofN_length] at hr
    obtain ⟨b, off, hA, _, hc⟩ := hr (l.length - 1) (by omega)
    subst hA
    rw [ofN_at] at hc
    have hc' : w.cell? ⟨b, off + (m - 1), none⟩ = some (.int .i64 (x : Int)) := by rw [hm, hx]; exact hc
    rw [← hx]
    have HM := Lib.hid hm
    have hm1 : 1 ≤ m := by omega
    have hm2 : m ≤ 9223372036854775807 := by
      obtain ⟨_, cc, e, hle⟩ := h.o.le
      have := h.o
      rcases this.2 with ⟨e0, _⟩ | ⟨_, cap, _, e1, _, _, h3, h4, _⟩
      · cases e0
      · injection e1 with _ e2 _
        unfold maxLen at h4
        omega
    obtain ⟨m', rfl⟩ : ∃ m', m = m' + 1 := ⟨m - 1, by omega⟩
    rw [Nat.add_sub_cancel] at hc'
    clear hx hc hr hm h hl hpos hm1
    go_enter Tryz.func188, Tryz.ntmps188
    have hi1 : wrap64 (((m' + 1 : Nat) : Int) - 1) = (m' : Int) := by rw [wrap64_in (by omega) (by omega)]; omega
    go_wp2_with fail
    go_region
    go_wp2
    go_ret
    exact ⟨rfl, _, rfl⟩

variable {s : ByteArray} {a : Nat} {C : List Nat}
theorem arr_list (k : Nat) (z : Int) : (arr k (fun _ => z)).toList = Is (List.replicate k z) := by
  apply List.ext_getElem?
  intro i
  by_cases h : i < k
  · rw [Array.getElem?_toList, arr_get _ h, Is_get, List.getElem?_replicate, if_pos h]; rfl
  · rw [List.getElem?_eq_none (by rw [Array.length_toList, arr_size]; omega), List.getElem?_eq_none (by rw [Is_length, List.length_replicate]; omega)]
theorem tabl.block {w w' : World} {t b : Nat} (h : tabl w t 19 C) {cs : Array Value} (hb : Blk w b 3 cs) (k : Only (At b) w w') : tabl w' t 19 C := Go.Proofs.YtnkninjdpgpkmaaGreatDoor.Ph.tabl.apart h hb (by decide) (by decide) (by decide) k
/-- A row of ints grows: the table is as it was. -/
theorem tabl.grown {w w' : World} {t : Nat} {base : Nat} {v : Value} {l : List Int} (h : tabl w t 19 C) (ho : ints w base 3 v l) (k : w.grownBy w' v.ownBlock) : tabl w' t 19 C := by
  rcases ho.2 with ⟨rfl, _⟩ | ⟨g, cap, cur, rfl, _, hg, _⟩
  · exact Go.Proofs.YtnkninjdpgpkmaaGreatDoor.Ph.tabl.below h ⟨k.os, k.tape, k.output, k.size, fun i hi => k.block i hi (by simp [Value.ownBlock])⟩
  · exact tabl.block h (cs := cur) hg ⟨k.os, k.tape, k.output, k.size, fun i hi hn => k.block i hi (by simp [Value.ownBlock]; exact fun e => hn e)⟩
/-- What is behind an append to the lengths, and the store of the new slice. -/
theorem sq_more {w3 w4 : World} {A : Option Addr} {m c k : Nat} {z : Int} {x : Nat} {gg cap1 : Nat} (H : sq base w3 q r t (.slice A m c) l n) (hm : m = l.length) (hz : z = (x : Int)) (hr : rd w3 r s a) (hT : tabl w3 t 19 C) (hrb : r < base)
    (hown : w4.ownsRow base 3 1 (.slice (some ⟨gg, 0, none⟩) (m + k) cap1) (m + k) (Is (ofN l) ++ (arr k (fun _ => z)).toList)) (hg : w3.grownBy w4 (Value.slice A m c).ownBlock) (hat : (Value.slice A m c).ownBlock = some gg ∨ gg = w3.heap.size) :
    sq base (w4.setCell ⟨q, 2, none⟩ (.slice (some ⟨gg, 0, none⟩) (m + k) cap1)) q r t (.slice (some ⟨gg, 0, none⟩) (m + k) cap1) (l ++ List.replicate k x) n ∧ rd (w4.setCell ⟨q, 2, none⟩ (.slice (some ⟨gg, 0, none⟩) (m + k) cap1)) r s a ∧ tabl (w4.setCell ⟨q, 2, none⟩ (.slice (some ⟨gg, 0, none⟩) (m + k) cap1)) t 19 C
      ∧ Only (Sx base r) w3 (w4.setCell ⟨q, 2, none⟩ (.slice (some ⟨gg, 0, none⟩) (m + k) cap1)) := by
  have hq := H.b.lt
  have hrl := hr.lt
  have hap : ∀ i, (Value.slice A m c).ownBlock = some i → i ≠ q := own_apart H.o H.b (by decide)
  have hapr : ∀ i, (Value.slice A m c).ownBlock = some i → i ≠ r := own_apart H.o hr (by decide)
  have hlo := H.o.lo
  have b4 : Blk w4 q 232 #[.pointer (some ⟨r, 0, none⟩), .pointer (some ⟨t, 0, none⟩), .slice A m c, .int .i64 (n : Int)] := (hg.block q hq (fun e => hap q e.symm rfl)).trans H.b
  have r4 : rd w4 r s a := (hg.block r hrl (fun e => hapr r e.symm rfl)).trans hr
  have t4 := tabl.grown hT H.o hg
  have oq : Only (At q) w4 (w4.setCell ⟨q, 2, none⟩ (.slice (some ⟨gg, 0, none⟩) (m + k) cap1)) := (Only.refl (At q) w4).store (p := ⟨q, 2, none⟩) (.inl rfl) _
  have hne : q ≠ r := by have := H.g0; omega
  have hgg : gg ≠ q := by
    rcases hat with e | e
    · exact hap gg e
    · omega
  refine ⟨⟨b4.store 2 _, ?_, H.g0⟩, r4.only oq (fun e => hne e.symm), Go.Proofs.YtnkninjdpgpkmaaGreatDoor.Ph.tabl.apart t4 b4 (by decide) (by decide) (by decide) oq, ?_⟩
  · have e1 : ofN (l ++ List.replicate k x) = ofN l ++ List.replicate k z := by rw [ofN_append, ofN_rep, hz]
    have e2 : (ofN (l ++ List.replicate k x)).length = m + k := by rw [e1, List.length_append, ofN_length, List.length_replicate, hm]
    have h5 : ints w4 base 3 (.slice (some ⟨gg, 0, none⟩) (m + k) cap1) (ofN (l ++ List.replicate k x)) := by
      unfold ints
      rw [e2, e1, Is_append, ← arr_list]
      exact hown
    exact h5.only oq (fun i hi e => by
      have : some gg = some i := hi
      injection this with this
      exact hgg (this.trans e))
  · have o34 : Only (Sx base r) w3 w4 := ⟨hg.os, hg.tape, hg.output, hg.size, fun i hi hn => hg.block i hi (fun e => hn (.inr (hlo i e.symm).1))⟩
    exact o34.trans (oq.mono (fun i hi => .inr (by have : i = q := hi; have := H.g0; omega)))
theorem repeat_form {z L X : Int} (hz : z < 0) : Calls Tryz.prog 189 #[.pointer (some ⟨q, 0, none⟩), .int .i64 z, .int .i64 L, .int .i64 X] w fun e w' => e = .returned (.int .i64 4) ∧ w = w' := by
  go_enter Tryz.func189, Tryz.ntmps189
  go_wp2
  go_ret
  exact ⟨rfl, rfl⟩
theorem repeat_short {A : Option Addr} {m c : Nat} {z L X' : Int} {x X : Nat} (hz : z = (x : Int)) (hX : X' = (X : Int)) (h : sq base w q r t (.slice A m c) l n) (hr : rd w r s a) (hs : s.size ≤ 281474976710656) (ha : a ≤ 8 * s.size) (hX32 : X ≤ 32) (hl : 8 * s.size - a < X) :
    Calls Tryz.prog 189 #[.pointer (some ⟨q, 0, none⟩), .int .i64 z, .int .i64 L, .int .i64 X'] w fun e w' => e = .returned (.int .i64 2) ∧ Only (At r) w w' := by
  have c0 : w.cell? ⟨q, 0, none⟩ = some (.pointer (some ⟨r, 0, none⟩)) := h.b.cell 0
  have hz0 : ¬ z < 0 := by omega
  clear hz
  subst hX
  go_enter Tryz.func189, Tryz.ntmps189
  go_wp2_with fail
  refine (Bits_short (m := X) rfl hX32 hr hs ha hl).mono ?_
  rintro e w1 ⟨rfl, r1, o1⟩
  go_wp2
  go_ret
  exact ⟨rfl, o1⟩
theorem repeat_big {A : Option Addr} {m c : Nat} {z L' X' : Int} {x L X : Nat} (hz : z = (x : Int)) (hL : L' = (L : Int)) (hX : X' = (X : Int)) (h : sq base w q r t (.slice A m c) l n) (hr : rd w r s a) (hs : s.size ≤ 281474976710656) (ha : a + X ≤ 8 * s.size) (hX32 : X ≤ 32)
    (hn : n ≤ 1000) (hL11 : L ≤ 11) (hln : l.length ≤ n) (hb : n < l.length + L + peekN (num s.data.toList) a X) :
    Calls Tryz.prog 189 #[.pointer (some ⟨q, 0, none⟩), .int .i64 z, .int .i64 L', .int .i64 X'] w fun e w' => e = .returned (.int .i64 3) ∧ Only (At r) w w' := by
  have c0 : w.cell? ⟨q, 0, none⟩ = some (.pointer (some ⟨r, 0, none⟩)) := h.b.cell 0
  have hz0 : ¬ z < 0 := by omega
  have hm : m = l.length := by obtain ⟨A', c', e⟩ := h.form; injection e
  obtain ⟨y, hy⟩ : ∃ y, y = peekN (num s.data.toList) a X := ⟨_, rfl⟩
  have hy32 : y < 4294967296 := by
    have h1 := peekN_lt (num s.data.toList) a X
    have h2 : 2 ^ X ≤ 2 ^ 32 := Nat.pow_le_pow_right (by omega) hX32
    rw [hy]; omega
  rw [← hy] at hb
  have HY := Lib.hid hy
  subst hL
  subst hX
  have H := Lib.hid h
  have HR := Lib.hid hr
  have hb' : n < m + L + y := by omega
  have hmn : m ≤ n := by omega
  clear hz hy h hr hm hb hln
  go_enter Tryz.func189, Tryz.ntmps189
  go_wp2_with fail
  refine (Bits_has (m := X) rfl hX32 HR.out hs ha).mono ?_
  rintro e w1 ⟨rfl, r1, o1⟩
  rw [← HY.out]
  have h1 := H.out.reader HR.out o1
  have d2 : w1.cell? ⟨q, 2, none⟩ = some (.slice A m c) := h1.b.cell 2
  have d3 : w1.cell? ⟨q, 3, none⟩ = some (.int .i64 (n : Int)) := h1.b.cell 3
  have O1 := Lib.hid o1
  have e1 : wrap64 ((L : Int) + (y : Int)) = ((L + y : Nat) : Int) := by rw [wrap64_in (by omega) (by omega)]; omega
  have e2 : wrap64 ((n : Int) - (m : Int)) = ((n - m : Nat) : Int) := by rw [wrap64_in (by omega) (by omega)]; omega
  have e3 : ((n - m : Nat) : Int) < ((L + y : Nat) : Int) := by omega
  clear h1 o1 r1
  go_wp2_with fail
  go_region
  go_wp2
  go_ret
  exact ⟨rfl, O1.out.draws _⟩
end
end Go.Proofs.YtnkninjdpgpkmaaGreatDoor.Kq
namespace Go.Proofs.YtnkninjdpgpkmaaGreatDoor.Kr
open Go.RowKit Go.Proofs.YtnkninjdpgpkmaaGreatDoor.Vm Go.Proofs.YtnkninjdpgpkmaaGreatDoor.Vo Go.Proofs.YtnkninjdpgpkmaaGreatDoor.Bw Go.Proofs.YtnkninjdpgpkmaaGreatDoor.Bm Go.Proofs.YtnkninjdpgpkmaaGreatDoor.Br Go.Proofs.YtnkninjdpgpkmaaGreatDoor.Bs Go.Proofs.YtnkninjdpgpkmaaGreatDoor.Na Go.Proofs.YtnkninjdpgpkmaaGreatDoor.Nf Go.Proofs.YtnkninjdpgpkmaaGreatDoor.Nm Go.Proofs.YtnkninjdpgpkmaaGreatDoor.Pm Go.Proofs.YtnkninjdpgpkmaaGreatDoor.Pg Go.Proofs.YtnkninjdpgpkmaaGreatDoor.Ph Go.Proofs.YtnkninjdpgpkmaaGreatDoor.Ko Go.Proofs.YtnkninjdpgpkmaaGreatDoor.Ka Go.Proofs.YtnkninjdpgpkmaaGreatDoor.Kb Go.Proofs.YtnkninjdpgpkmaaGreatDoor.Km Go.Proofs.YtnkninjdpgpkmaaGreatDoor.Kc Go.Proofs.YtnkninjdpgpkmaaGreatDoor.Kd Go.Proofs.YtnkninjdpgpkmaaGreatDoor.Ke Go.Proofs.YtnkninjdpgpkmaaGreatDoor.Kq

section
variable {base : Nat} {w w' : World} {q r t : Nat} {v : Value} {l : List Nat} {n : Nat} {s : ByteArray} {a : Nat} {C : List Nat}
set_option maxHeartbeats 4000000 in
set_option maxRecDepth 100000 in
theorem repeat_ok {A : Option Addr} {m c : Nat} {z L' X' : Int} {x L X : Nat} (hz : z = (x : Int)) (hL : L' = (L : Int)) (hX : X' = (X : Int)) (h : sq base w q r t (.slice A m c) l n) (hr : rd w r s a) (hT : tabl w t 19 C) (hs : s.size ≤ 281474976710656) (ha : a + X ≤ 8 * s.size) (hX32 : X ≤ 32)
    (hn : n ≤ 1000) (hL11 : L ≤ 11) (hL1 : 1 ≤ L) (hrb : r < base) (hbw : base ≤ w.heap.size) (hb : ¬ n < l.length + L + peekN (num s.data.toList) a X) :
    Calls Tryz.prog 189 #[.pointer (some ⟨q, 0, none⟩), .int .i64 z, .int .i64 L', .int .i64 X'] w fun e w' => e = .returned (.int .i64 0) ∧ (∃ v', sq base w' q r t v' (l ++ List.replicate (L + peekN (num s.data.toList) a X) x) n) ∧ rd w' r s (a + X) ∧ tabl w' t 19 C ∧ Only (Sx base r) w w' := by
  have c0 : w.cell? ⟨q, 0, none⟩ = some (.pointer (some ⟨r, 0, none⟩)) := h.b.cell 0
  have hz0 : ¬ z < 0 := by omega
  have hm : m = l.length := by obtain ⟨A', c', e⟩ := h.form; injection e
  obtain ⟨y, hy⟩ : ∃ y, y = peekN (num s.data.toList) a X := ⟨_, rfl⟩
  rw [← hy] at hb ⊢
  have HY := Lib.hid hy
  have HM := Lib.hid hm
  subst hL
  subst hX
  have H := Lib.hid h
  have HR := Lib.hid hr
  have HT := Lib.hid hT
  have hb' : m + L + y ≤ n := by omega
  have HBW := Lib.hid hbw
  have HRB := Lib.hid hrb
  have HZ := Lib.hid hz
  have hLy : L + y ≤ 1000 := by omega
  clear hy h hr hm hb hT hbw hrb hz
  go_enter Tryz.func189, Tryz.ntmps189
  go_wp2_with fail
  refine (Bits_has (m := X) rfl hX32 HR.out hs ha).mono ?_
  rintro e w1 ⟨rfl, r1, o1⟩
  rw [← HY.out]
  have H1 := Lib.hid (H.out.reader HR.out o1)
  have d2 : w1.cell? ⟨q, 2, none⟩ = some (.slice A m c) := H1.out.b.cell 2
  have d3 : w1.cell? ⟨q, 3, none⟩ = some (.int .i64 (n : Int)) := H1.out.b.cell 3
  have O1 := Lib.hid o1
  have R1 := Lib.hid r1
  obtain ⟨T, hTe⟩ : ∃ T, T = L + y := ⟨_, rfl⟩
  obtain ⟨D, hDe⟩ : ∃ D, D = n - m := ⟨_, rfl⟩
  have hT1 : 1 ≤ T := by omega
  have hT2 : m + T ≤ 1000 := by omega
  have e3 : ¬ (D : Int) < (T : Int) := by omega
  have eLy : (L : Int) + (y : Int) = (T : Int) := by omega
  have ELY := Lib.hid eLy
  clear eLy
  have e2 : wrap64 ((n : Int) - (m : Int)) = (D : Int) := by rw [wrap64_in (by omega) (by omega)]; omega
  have e3' : ¬ (n : Int) - (m : Int) < (L : Int) + (y : Int) := by omega
  have HTE := Lib.hid hTe
  clear o1 r1
  have HT1 := Lib.hid (Go.Proofs.YtnkninjdpgpkmaaGreatDoor.Ph.tabl.apart HT.out HR.out (by decide) (by decide) (by decide) O1.out)
  have HE := fun u => Lib.hid (equal_any z (n := T) ((L : Int) + (y : Int)) ELY.out hT1 (Nat.le_trans (Nat.le_trans (Nat.le_add_left _ _) hT2) (by decide)) u)
  have hq := Lib.hid H1.out.b.lt
  have hap := Lib.hid (own_apart H1.out.o H1.out.b (by decide))
  obtain ⟨i0, hi, hz0', hz1, hz2⟩ := info_parts infoI
  have hs1 := Lib.hid O1.out.size
  clear hTe hDe
  go_wp2_with fail
  go_region
  go_wp2_with fail
  go_region_law (first | (refine step_append_lies _ (by rfl) _ _ _ (by rfl) base 3 i0 _ 1 8 Tryz.underlying22 hi hz0' hz1 hz2 rfl (by omega) (.slice A m c) m (Is (ofN l)) (by rfl) HO3.out ⟨g3, 0, none⟩ T T (arr T (fun _ => z)).toList (by rfl) (by rw [Array.length_toList, arr_size, Nat.mul_one]) (World.news_of_block (cs := arr T (fun _ => z)) (t := 3) (fr := (0, 0)) K3.out) (by rw [arr_list]; exact Is_one _) (by omega) (by unfold maxLen; omega) (by omega) HB3.out w3.heap.size rfl ?_; intro gg cap1 w4 hown1 hgrow hat hlt; have HX4 := Lib.hid (sq_more H3.out HM.out HZ.out R3.out T3.out HRB.out hown1 hgrow hat); have fz := (hgrow.frozen_far ⟨q, 2, none⟩ hq3.out (fun e => hap3.out q e.symm rfl)).trans f3; have cz := (hgrow.cell_far ⟨q, 2, none⟩ hq3.out (fun e => hap3.out q e.symm rfl)).trans d2'; clear hown1 hgrow hat hlt) | (go_simp; refine (HE _).out.mono ?_; rintro e w3 ⟨g3, rfl, k3, p3, b3⟩; have K3 := Lib.hid k3; have b13 : Below w1.heap.size w1 w3 := grows (below_drew (below_drew (Below.refl w1.heap.size w1))) b3; have B3 := Lib.hid b13; have H3 := Lib.hid (H1.out.below b13); have R3 := Lib.hid (R1.out.below b13); have T3 := Lib.hid (Go.Proofs.YtnkninjdpgpkmaaGreatDoor.Ph.tabl.below HT1.out b13); have d2' : w3.cell? ⟨q, 2, none⟩ = some (.slice A m c) := H3.out.b.cell 2; have f3 := H3.out.b.frozen 2; have HO3 : Hid (w3.ownsRow base 3 1 (.slice A m c) m (Is (ofN l))) := Lib.hid (by have h := H3.out.o; unfold ints at h; rw [ofN_length, ← HM.out] at h; exact h); have hq3 : Hid (q < w3.heap.size) := Lib.hid (Nat.lt_of_lt_of_le hq.out b13.size); have hap3 : Hid (∀ i, (Value.slice A m c).ownBlock = some i → i ≠ q) := hap; have HB3 : Hid (base ≤ w3.heap.size) := Lib.hid (Nat.le_trans (Nat.le_trans HBW.out hs1.out) b13.size); clear k3 b3 p3 b13))
  all_goals
    go_wp2
    go_ret
    refine ⟨rfl, ⟨_, by rw [← HTE.out]; exact HX4.out.1⟩, HX4.out.2.1, HX4.out.2.2.1, ?_⟩
    exact ((O1.out.mono (fun i hi => .inl hi)).trans (Only.of_below B3.out)).trans HX4.out.2.2.2
end
end Go.Proofs.YtnkninjdpgpkmaaGreatDoor.Kr
namespace Go.Proofs.YtnkninjdpgpkmaaGreatDoor.Kt
open Go.RowKit Go.Proofs.YtnkninjdpgpkmaaGreatDoor.Vm Go.Proofs.YtnkninjdpgpkmaaGreatDoor.Vo Go.Proofs.YtnkninjdpgpkmaaGreatDoor.Bw Go.Proofs.YtnkninjdpgpkmaaGreatDoor.Bm Go.Proofs.YtnkninjdpgpkmaaGreatDoor.Br Go.Proofs.YtnkninjdpgpkmaaGreatDoor.Bs Go.Proofs.YtnkninjdpgpkmaaGreatDoor.Na Go.Proofs.YtnkninjdpgpkmaaGreatDoor.Nf Go.Proofs.YtnkninjdpgpkmaaGreatDoor.Nm Go.Proofs.YtnkninjdpgpkmaaGreatDoor.Pm Go.Proofs.YtnkninjdpgpkmaaGreatDoor.Pg Go.Proofs.YtnkninjdpgpkmaaGreatDoor.Ph Go.Proofs.YtnkninjdpgpkmaaGreatDoor.Ko Go.Proofs.YtnkninjdpgpkmaaGreatDoor.Ka Go.Proofs.YtnkninjdpgpkmaaGreatDoor.Kb Go.Proofs.YtnkninjdpgpkmaaGreatDoor.Km Go.Proofs.YtnkninjdpgpkmaaGreatDoor.Kc Go.Proofs.YtnkninjdpgpkmaaGreatDoor.Kd Go.Proofs.YtnkninjdpgpkmaaGreatDoor.Ke Go.Proofs.YtnkninjdpgpkmaaGreatDoor.Kq Go.Proofs.YtnkninjdpgpkmaaGreatDoor.Kr

section
variable {base : Nat} {w w' : World} {q r t : Nat} {l : List Nat} {n : Nat} {s : ByteArray} {a : Nat} {C : List Nat} {A : Option Addr} {m c : Nat}
/-- What previous tells. -/
def prev (l : List Nat) : Int := if l = [] then -1 else ((nth l (l.length - 1) : Nat) : Int)
theorem add_16 {P : Ending → World → Prop} (h : sq base w q r t (.slice A m c) l n) (hret : ∀ e u, P e u → ∃ x, e = .returned (.int .i64 x)) (H : Hid (∀ d, Calls Tryz.prog 189 #[.pointer (some ⟨q, 0, none⟩), .int .i64 (prev l), .int .i64 3, .int .i64 2] (w.drewN d) P)) :
    Calls Tryz.prog 186 #[.pointer (some ⟨q, 0, none⟩), .int .i64 16] w P := by
  have HP := Lib.hid (previous_any h)
  have HR := Lib.hid hret
  clear h hret
  obtain ⟨p, hp⟩ : ∃ p, p = prev l := ⟨_, rfl⟩
  rw [← hp] at H
  have hp' : p = (if l = [] then -1 else ((nth l (l.length - 1) : Nat) : Int)) := hp
  rw [← hp'] at HP
  clear hp hp'
  go_enter Tryz.func186, Tryz.ntmps186
  go_wp2_with fail
  refine HP.out.mono ?_
  rintro e w1 ⟨rfl, d, hd⟩
  rw [hd]
  clear hd
  go_wp2_with fail
  refine (H.out d).mono ?_
  intro e w2 he
  obtain ⟨x, rfl⟩ := HR.out e w2 he
  have HE := Lib.hid he
  clear he
  go_wp2
  exact HE.out
theorem add_17 {P : Ending → World → Prop} (h : sq base w q r t (.slice A m c) l n) (hret : ∀ e u, P e u → ∃ x, e = .returned (.int .i64 x)) (H : Hid (∀ d, Calls Tryz.prog 189 #[.pointer (some ⟨q, 0, none⟩), .int .i64 0, .int .i64 3, .int .i64 3] (w.drewN d) P)) :
    Calls Tryz.prog 186 #[.pointer (some ⟨q, 0, none⟩), .int .i64 17] w P := by
  have HP := Lib.hid (previous_any h)
  have HR := Lib.hid hret
  clear h hret
  obtain ⟨p, hp'⟩ : ∃ p, p = (if l = [] then -1 else ((nth l (l.length - 1) : Nat) : Int)) := ⟨_, rfl⟩
  rw [← hp'] at HP
  clear hp'
  go_enter Tryz.func186, Tryz.ntmps186
  go_wp2_with fail
  refine HP.out.mono ?_
  rintro e w1 ⟨rfl, d, hd⟩
  rw [hd]
  clear hd
  go_wp2_with fail
  refine (H.out d).mono ?_
  intro e w2 he
  obtain ⟨x, rfl⟩ := HR.out e w2 he
  have HE := Lib.hid he
  clear he
  go_wp2
  exact HE.out
theorem add_18 {P : Ending → World → Prop} (h : sq base w q r t (.slice A m c) l n) (hret : ∀ e u, P e u → ∃ x, e = .returned (.int .i64 x)) (H : Hid (∀ d, Calls Tryz.prog 189 #[.pointer (some ⟨q, 0, none⟩), .int .i64 0, .int .i64 11, .int .i64 7] (w.drewN d) P)) :
    Calls Tryz.prog 186 #[.pointer (some ⟨q, 0, none⟩), .int .i64 18] w P := by
  have HP := Lib.hid (previous_any h)
  have HR := Lib.hid hret
  clear h hret
  obtain ⟨p, hp'⟩ : ∃ p, p = (if l = [] then -1 else ((nth l (l.length - 1) : Nat) : Int)) := ⟨_, rfl⟩
  rw [← hp'] at HP
  clear hp'
  go_enter Tryz.func186, Tryz.ntmps186
  go_wp2_with fail
  refine HP.out.mono ?_
  rintro e w1 ⟨rfl, d, hd⟩
  rw [hd]
  clear hd
  go_wp2_with fail
  refine (H.out d).mono ?_
  intro e w2 he
  obtain ⟨x, rfl⟩ := HR.out e w2 he
  have HE := Lib.hid he
  clear he
  go_wp2
  exact HE.out

theorem arr1 (z : Int) : arr 1 (fun _ => z) = #[.int .i64 z] := rfl
set_option maxHeartbeats 1000000 in
set_option maxRecDepth 100000 in
theorem add_low {i : Nat} {z : Int} (hz : z = (i : Int)) (hi16 : i < 16) (h : sq base w q r t (.slice A m c) l n) (hr : rd w r s a) (hT : tabl w t 19 C) (hn : l.length ≤ 1000) (hrb : r < base) (hbw : base ≤ w.heap.size) :
    Calls Tryz.prog 186 #[.pointer (some ⟨q, 0, none⟩), .int .i64 z] w fun e w' => e = .returned (.int .i64 0) ∧ (∃ v', sq base w' q r t v' (l ++ [i]) n) ∧ rd w' r s a ∧ tabl w' t 19 C ∧ Only (Sx base r) w w' := by
  have HP := Lib.hid (previous_any h)
  obtain ⟨p, hp'⟩ : ∃ p, p = (if l = [] then -1 else ((nth l (l.length - 1) : Nat) : Int)) := ⟨_, rfl⟩
  rw [← hp'] at HP
  have hm : m = l.length := by obtain ⟨A', c', e⟩ := h.form; injection e
  have z18 : (z == 18) = false := by simp; omega
  have z17 : (z == 17) = false := by simp; omega
  have z16 : (z == 16) = false := by simp; omega
  have HM := Lib.hid hm
  have hm1 : m ≤ 1000 := by omega
  have HZ := Lib.hid hz
  have H := Lib.hid h
  have HR := Lib.hid hr
  have HT := Lib.hid hT
  have HRB := Lib.hid hrb
  have HBW := Lib.hid hbw
  obtain ⟨i0, hi, hz0', hz1, hz2⟩ := info_parts infoI
  clear hp' hm hz h hr hT hrb hbw hn hi16
  go_enter Tryz.func186, Tryz.ntmps186
  go_wp2_with fail
  refine HP.out.mono ?_
  rintro e w1 ⟨rfl, d, hd⟩
  have b1 : Below w.heap.size w w1 := by rw [hd]; exact below_draws w d
  clear hd
  obtain ⟨w3, hw3⟩ : ∃ u, u = w1.alloc (.cells #[.int .i64 z] 3) := ⟨_, rfl⟩
  have b13 : Below w.heap.size w w3 := by rw [hw3]; exact grows b1 (below_alloc _ _)
  have B3 := Lib.hid b13
  have H3 := Lib.hid (H.out.below b13)
  have R3 := Lib.hid (HR.out.below b13)
  have T3 := Lib.hid (Go.Proofs.YtnkninjdpgpkmaaGreatDoor.Ph.tabl.below HT.out b13)
  have k3 : Blk w3 w1.heap.size 3 (arr 1 (fun _ => z)) := by rw [hw3, arr1]; exact Blk.fresh _ _ _
  have K3 := Lib.hid k3
  have d2 : w1.cell? ⟨q, 2, none⟩ = some (.slice A m c) := (H.out.below b1).b.cell 2
  have d2' : w3.cell? ⟨q, 2, none⟩ = some (.slice A m c) := H3.out.b.cell 2
  have f3 := H3.out.b.frozen 2
  have HO3 : Hid (w3.ownsRow base 3 1 (.slice A m c) m (Is (ofN l))) := Lib.hid (by have h := H3.out.o; unfold ints at h; rw [ofN_length, ← HM.out] at h; exact h)
  have hq3 : Hid (q < w3.heap.size) := Lib.hid (Nat.lt_of_lt_of_le H.out.b.lt b13.size)
  have hap3 : Hid (∀ i, (Value.slice A m c).ownBlock = some i → i ≠ q) := Lib.hid (own_apart H.out.o H.out.b (by decide))
  have HB3 : Hid (base ≤ w3.heap.size) := Lib.hid (Nat.le_trans HBW.out b13.size)
  clear b13 k3
  go_wp2_with (at_builtin; rw [← hw3]; refine wpList_append_lies _ rfl _ _ _ rfl base 3 i0 _ 1 8 Tryz.underlying22 hi hz0' hz1 hz2 rfl (by omega) (.slice A m c) m (Is (ofN l)) rfl HO3.out ⟨w1.heap.size, 0, none⟩ 1 1 (arr 1 (fun _ => z)).toList rfl (by rw [Array.length_toList, arr_size]) (World.news_of_block (cs := arr 1 (fun _ => z)) (t := 3) (fr := (0, 0)) K3.out) (by rw [arr_list]; exact Is_one _) (by omega) (by unfold maxLen; omega) (by omega) HB3.out w3.heap.size rfl ?_; intro gg cap1 w4 hown1 hgrow hat hlt; have HX4 := Lib.hid (sq_more H3.out HM.out HZ.out R3.out T3.out HRB.out hown1 hgrow hat); have fz := (hgrow.frozen_far ⟨q, 2, none⟩ hq3.out (fun e => hap3.out q e.symm rfl)).trans f3; have cz := (hgrow.cell_far ⟨q, 2, none⟩ hq3.out (fun e => hap3.out q e.symm rfl)).trans d2'; clear hown1 hgrow hat hlt)
  go_ret
  exact ⟨rfl, ⟨_, HX4.out.1⟩, HX4.out.2.1, HX4.out.2.2.1, (Only.of_below B3.out).trans HX4.out.2.2.2⟩
end
end Go.Proofs.YtnkninjdpgpkmaaGreatDoor.Kt
namespace Go.Proofs.YtnkninjdpgpkmaaGreatDoor.Kv
open Go.RowKit Go.Proofs.YtnkninjdpgpkmaaGreatDoor.Vm Go.Proofs.YtnkninjdpgpkmaaGreatDoor.Vo Go.Proofs.YtnkninjdpgpkmaaGreatDoor.Bw Go.Proofs.YtnkninjdpgpkmaaGreatDoor.Bm Go.Proofs.YtnkninjdpgpkmaaGreatDoor.Br Go.Proofs.YtnkninjdpgpkmaaGreatDoor.Bs Go.Proofs.YtnkninjdpgpkmaaGreatDoor.Na Go.Proofs.YtnkninjdpgpkmaaGreatDoor.Nf Go.Proofs.YtnkninjdpgpkmaaGreatDoor.Nm Go.Proofs.YtnkninjdpgpkmaaGreatDoor.Pm Go.Proofs.YtnkninjdpgpkmaaGreatDoor.Pg Go.Proofs.YtnkninjdpgpkmaaGreatDoor.Ph Go.Proofs.YtnkninjdpgpkmaaGreatDoor.Ko Go.Proofs.YtnkninjdpgpkmaaGreatDoor.Ka Go.Proofs.YtnkninjdpgpkmaaGreatDoor.Kb Go.Proofs.YtnkninjdpgpkmaaGreatDoor.Km Go.Proofs.YtnkninjdpgpkmaaGreatDoor.Kc Go.Proofs.YtnkninjdpgpkmaaGreatDoor.Kd Go.Proofs.YtnkninjdpgpkmaaGreatDoor.Ke Go.Proofs.YtnkninjdpgpkmaaGreatDoor.Kq Go.Proofs.YtnkninjdpgpkmaaGreatDoor.Kr Go.Proofs.YtnkninjdpgpkmaaGreatDoor.Kt

section
variable {base : Nat} {w w' : World} {q r t : Nat} {l : List Nat} {n : Nat} {s : ByteArray} {a : Nat} {C : List Nat}
/-- One symbol more is added: what is wrong, or the state behind it. -/
def adds (base q r t : Nat) (s : ByteArray) (C : List Nat) (n a : Nat) (l : List Nat) (w : World) (e : Ending) (w' : World) : Prop :=
  ∃ x, e = .returned (.int .i64 x) ∧ Only (Sx base r) w w' ∧
    ((x ≠ 0 ∧ (seqM C (num s.data.toList) (8 * s.size) n a l).1 = x) ∨
     (x = 0 ∧ ∃ v' l' a', sq base w' q r t v' l' n ∧ rd w' r s a' ∧ tabl w' t 19 C ∧ a' ≤ 8 * s.size ∧ l.length < l'.length ∧ l'.length ≤ n ∧ seqM C (num s.data.toList) (8 * s.size) n a l = seqM C (num s.data.toList) (8 * s.size) n a' l'))
theorem add_any {i : Nat} {z : Int} (hz : z = (i : Int)) (h15 : ∀ j, nth C j ≤ 15) (hC : C.length = 19) {v : Value} (h : sq base w q r t v l n) (hr : rd w r s (a + nth C i)) (hT : tabl w t 19 C) (hs : s.size ≤ 281474976710656) (ha : a ≤ 8 * s.size) (hn : n ≤ 1000) (hrb : r < base) (hbw : base ≤ w.heap.size)
    (hl : l.length < n) (hg : got C (num s.data.toList) a (8 * s.size - a) = some i) :
    Calls Tryz.prog 186 #[.pointer (some ⟨q, 0, none⟩), .int .i64 z] w (adds base q r t s C n a l w) := by
  obtain ⟨g1, g2⟩ := got_lt h15 hg
  have hp : a + nth C i ≤ 8 * s.size := by omega
  obtain ⟨A, c, rfl⟩ := h.form
  by_cases hi : i < 16
  · refine (add_low hz hi h hr hT (by omega) hrb hbw).mono ?_
    rintro e w' ⟨rfl, ⟨v', h'⟩, r', t', o'⟩
    exact ⟨0, rfl, o', .inr ⟨rfl, v', l ++ [i], a + nth C i, h', r', t', hp, by simp, by simp; omega, seq_low hl hg hi⟩⟩
  -- one that repeats
  have key : ∀ (zz : Int) (x : Nat), (∀ d, sq base (w.drewN d) q r t (.slice A l.length c) l n) → zz = (x : Int) → x = rv i l → ¬ (i = 16 ∧ l = []) → ∀ (L' X' : Int), L' = ((rp i : Nat) : Int) → X' = ((xb i : Nat) : Int) → ∀ d, Calls Tryz.prog 189 #[.pointer (some ⟨q, 0, none⟩), .int .i64 zz, .int .i64 L', .int .i64 X'] (w.drewN d) (adds base q r t s C n a l w) := by
    intro zz x hd hzz hx hf L' X' hL hX d
    have hrd : rd (w.drewN d) r s (a + nth C i) := hr
    have od : Only (Sx base r) w (w.drewN d) := Only.of_below (below_draws w d)
    have htd : tabl (w.drewN d) t 19 C := Go.Proofs.YtnkninjdpgpkmaaGreatDoor.Ph.tabl.below hT (below_draws w d)
    have hx32 : xb i ≤ 32 := by have := xb_le i; omega
    by_cases hsh : 8 * s.size - (a + nth C i) < xb i
    · refine (repeat_short (x := x) hzz hX (hd d) hrd hs hp hx32 hsh).mono ?_
      rintro e w' ⟨rfl, o'⟩
      exact ⟨2, rfl, od.trans (o'.mono (fun k hk => .inl hk)), .inl ⟨by decide, by rw [seq_short hl hg (by omega) hf hsh]⟩⟩
    · by_cases hb : n < l.length + rp i + peekN (num s.data.toList) (a + nth C i) (xb i)
      · refine (repeat_big (x := x) hzz hL hX (hd d) hrd hs (by omega) hx32 hn (rp_le i) (by omega) hb).mono ?_
        rintro e w' ⟨rfl, o'⟩
        exact ⟨3, rfl, od.trans (o'.mono (fun k hk => .inl hk)), .inl ⟨by decide, by rw [seq_big hl hg (by omega) hf hsh hb]⟩⟩
      · refine (repeat_ok (x := x) hzz hL hX (hd d) hrd htd hs (by omega) hx32 hn (rp_le i) (by have := rp_pos i; omega) hrb (by exact hbw) hb).mono ?_
        rintro e w' ⟨rfl, ⟨v', h'⟩, r', t', o'⟩
        refine ⟨0, rfl, od.trans o', .inr ⟨rfl, v', _, _, h', r', t', by omega, ?_, ?_, ?_⟩⟩
        · rw [List.length_append, List.length_replicate]; have := rp_pos i; omega
        · rw [List.length_append, List.length_replicate]; omega
        · rw [seq_more hl hg (by omega) hf hsh hb, hx]
  have hd : ∀ d, sq base (w.drewN d) q r t (.slice A l.length c) l n := fun d => h.below (below_draws w d)
  have hret : ∀ e u, adds base q r t s C n a l w e u → ∃ x, e = .returned (.int .i64 x) := fun e u ⟨x, hx, _⟩ => ⟨x, hx⟩
  rcases (show i = 16 ∨ i = 17 ∨ i = 18 by omega) with rfl | rfl | rfl
  · subst hz
    refine add_16 h hret (Lib.hid ?_)
    by_cases hl0 : l = []
    · intro d
      have hpv : prev l = -1 := by unfold prev; rw [if_pos hl0]
      rw [hpv]
      refine (repeat_form (z := -1) (L := 3) (X := 2) (by decide)).mono ?_
      rintro e w' ⟨rfl, rfl⟩
      exact ⟨4, rfl, Only.of_below (below_draws w d), .inl ⟨by decide, by rw [seq_form hl hg rfl hl0]⟩⟩
    · exact key (prev l) (nth l (l.length - 1)) hd (by unfold prev; rw [if_neg hl0]) (by unfold rv; rw [if_pos rfl]) (fun e => hl0 e.2) 3 2 rfl rfl
  · subst hz
    exact add_17 h hret (Lib.hid (key 0 0 hd rfl (by unfold rv; rw [if_neg (by decide)]) (fun e => absurd e.1 (by decide)) 3 3 rfl rfl))
  · subst hz
    exact add_18 h hret (Lib.hid (key 0 0 hd rfl (by unfold rv; rw [if_neg (by decide)]) (fun e => absurd e.1 (by decide)) 11 7 rfl rfl))

/-- How many lengths there are so far. -/
def lenAt (w : World) (q : Nat) : Nat := match w.cell? ⟨q, 2, none⟩ with | some (.slice _ n _) => n | _ => 0
set_option maxHeartbeats 1000000 in
set_option maxRecDepth 100000 in
theorem read_any (h15 : ∀ j, nth C j ≤ 15) (hks : ksum C 16 ≤ 32768) (hC : C.length = 19) {v : Value} (h : sq base w q r t v [] n) (hr : rd w r s a) (hT : tabl w t 19 C) (hs : s.size ≤ 281474976710656) (ha : a ≤ 8 * s.size) (hn : n ≤ 1000) (hrb : r < base) (hbw : base ≤ w.heap.size) :
    Calls Tryz.prog 179 #[.pointer (some ⟨q, 0, none⟩)] w fun e w' => e = .returned (.int .i64 (seqM C (num s.data.toList) (8 * s.size) n a []).1) ∧ ((seqM C (num s.data.toList) (8 * s.size) n a []).1 = 0 → ∃ v', sq base w' q r t v' (seqM C (num s.data.toList) (8 * s.size) n a []).2.1 n ∧ rd w' r s (seqM C (num s.data.toList) (8 * s.size) n a []).2.2) ∧ Only (Sx base r) w w' := by
  obtain ⟨R, hR⟩ : ∃ R, R = seqM C (num s.data.toList) (8 * s.size) n a [] := ⟨_, rfl⟩
  rw [← hR]
  have HR0 := Lib.hid hR
  have H0 := Lib.hid h
  have HR := Lib.hid hr
  have HT := Lib.hid hT
  have H15 := Lib.hid h15
  have HKS := Lib.hid hks
  have HCL := Lib.hid hC
  have HS := Lib.hid hs
  have HA := Lib.hid ha
  have HRB := Lib.hid hrb
  have HBW := Lib.hid hbw
  clear hR h hr hT h15 hks hC hs ha hrb hbw
  go_enter Tryz.func179, Tryz.ntmps179
  go_wp2_with fail
  go_loopw [] (fun wr => ∃ (l' : List Nat) (v' : Value) (a' : Nat), Hid (sq base wr q r t v' l' n) ∧ Hid (rd wr r s a') ∧ Hid (tabl wr t 19 C) ∧ Hid (a' ≤ 8 * s.size) ∧ Hid (l'.length ≤ n) ∧ Hid (R = seqM C (num s.data.toList) (8 * s.size) n a' l') ∧ Hid (Only (Sx base r) w wr)) (fun wr => n - lenAt wr q)
  case atStart => exact ⟨[], v, a, H0, HR, HT, HA, Lib.hid (Nat.zero_le _), HR0, Lib.hid (Only.refl _ _)⟩
  case round =>
    obtain ⟨l', v', a', S', RD, T', A', LN, RE, OO⟩ := hrel
    clear H0 HR HT HR0 HA
    obtain ⟨A, c, hv'⟩ := S'.out.form
    obtain ⟨m, hm⟩ : ∃ m, m = l'.length := ⟨_, rfl⟩
    rw [← hm] at hv'
    have HM := Lib.hid hm
    clear hm
    subst hv'
    have c0 : wr.cell? ⟨q, 0, none⟩ = some (.pointer (some ⟨r, 0, none⟩)) := S'.out.b.cell 0
    have c1 : wr.cell? ⟨q, 1, none⟩ = some (.pointer (some ⟨t, 0, none⟩)) := S'.out.b.cell 1
    have c2 : wr.cell? ⟨q, 2, none⟩ = some (.slice A m c) := S'.out.b.cell 2
    have c3 : wr.cell? ⟨q, 3, none⟩ = some (.int .i64 (n : Int)) := S'.out.b.cell 3
    have HLA : Hid (lenAt wr q = m) := Lib.hid (by unfold lenAt; rw [c2])
    by_cases hmn : m < n
    · have hmn' : (m : Int) < (n : Int) := by omega
      have hl' : Hid (l'.length < n) := Lib.hid (by rw [← HM.out]; exact hmn)
      have b2 : Below wr.heap.size wr wr.drew.drew := below_drew (below_drew (Below.refl _ _))
      have S2 := Lib.hid (S'.out.below b2)
      have RD2 := Lib.hid (RD.out.below b2)
      have HRd := Lib.hid (Read_any H15.out HKS.out (by rw [HCL.out]; omega) HCL.out.symm (Go.Proofs.YtnkninjdpgpkmaaGreatDoor.Ph.tabl.below T'.out b2) RD2.out HS.out A'.out)
      have OO2 : Hid (Only (Sx base r) w wr.drew.drew) := Lib.hid (OO.out.trans (Only.of_below b2))
      have HB2 : Hid (base ≤ wr.drew.drew.heap.size) := Lib.hid (Nat.le_trans HBW.out OO2.out.size)
      clear b2
      rcases hgot : got C (num s.data.toList) a' (8 * s.size - a') with _ | i
      · obtain ⟨er, her⟩ : ∃ er, er = gotE C (num s.data.toList) a' (8 * s.size - a') := ⟨_, rfl⟩
        have hgs : gotS C (num s.data.toList) a' (8 * s.size - a') = 0 := by unfold gotS; rw [hgot]
        have her0 : (er != 0) = true := by rw [her]; unfold gotE; rw [hgot]; simp only; split <;> rfl
        have HD : Hid (R = (er, [], 0)) := Lib.hid (by rw [RE.out, seq_none hl'.out hgot, ← her])
        rw [← her, hgs] at HRd
        have hne : er ≠ 0 := by simpa using her0
        have HNE := Lib.hid hne
        clear her hgs hgot hne
        go_wp2_with fail
        go_region
        go_wp2_with fail
        go_region_with (go_at_call 132; refine HRd.out.mono ?_; rintro e w3 ⟨rfl, r3, t3, o3⟩; have O3 := Lib.hid o3; clear r3 t3 o3)
        all_goals
          go_wp2
          go_ret
          rw [HD.out]
          exact ⟨rfl, fun e => absurd e HNE.out, OO2.out.trans (O3.out.mono (fun k hk => .inl hk))⟩
      · have hgs : gotS C (num s.data.toList) a' (8 * s.size - a') = (i : Int) := by unfold gotS; rw [hgot]
        have hge : gotE C (num s.data.toList) a' (8 * s.size - a') = 0 := by unfold gotE; rw [hgot]
        have hga : gotA C (num s.data.toList) a' (8 * s.size - a') = a' + nth C i := by unfold gotA; rw [hgot]
        rw [hge, hgs, hga] at HRd
        have HGT := Lib.hid hgot
        clear hgs hge hga hgot
        go_wp2_with fail
        go_region
        go_wp2_with fail
        go_region_with (go_at_call 132; refine HRd.out.mono ?_; rintro e w3 ⟨rfl, r3, t3, o3⟩; have O3 := Lib.hid o3; have R3 := Lib.hid r3; have T3 := Lib.hid t3; have S3 := Lib.hid (S2.out.reader RD2.out o3); have HB3 : Hid (base ≤ w3.heap.size) := Lib.hid (Nat.le_trans HB2.out o3.size); clear r3 t3 o3)
        all_goals
          go_wp2_with fail
          refine (add_any (i := i) rfl H15.out HCL.out S3.out R3.out T3.out HS.out A'.out hn HRB.out HB3.out hl'.out HGT.out).mono ?_
          rintro e w4 ⟨x, rfl, o4, h4⟩
          have O4 : Hid (Only (Sx base r) w w4) := Lib.hid ((OO2.out.trans (O3.out.mono (fun k hk => .inl hk))).trans o4)
          clear o4
          rcases h4 with ⟨hx, hE⟩ | ⟨rfl, v4, l4, a4, s4, r4, t4, ha4, hl4, hn4, hq4⟩
          · have hx0 : (x != 0) = true := by simpa using hx
            have HX := Lib.hid hx
            have HE : Hid (R.1 = x) := Lib.hid (by rw [RE.out]; exact hE)
            clear hx hE
            go_wp2
            go_ret
            exact ⟨ret_i64 HE.out.symm, fun e => absurd (HE.out.symm.trans e) HX.out, O4.out⟩
          · have H4 := Lib.hid (show (∃ (l' : List Nat) (v' : Value) (a' : Nat), Hid (sq base w4 q r t v' l' n) ∧ Hid (rd w4 r s a') ∧ Hid (tabl w4 t 19 C) ∧ Hid (a' ≤ 8 * s.size) ∧ Hid (l'.length ≤ n) ∧ Hid (R = seqM C (num s.data.toList) (8 * s.size) n a' l') ∧ Hid (Only (Sx base r) w w4)) from
              ⟨l4, v4, a4, Lib.hid s4, Lib.hid r4, Lib.hid t4, Lib.hid ha4, Lib.hid hn4, Lib.hid (RE.out.trans hq4), O4⟩)
            have HL4 : Hid (m < lenAt w4 q ∧ lenAt w4 q ≤ n) := Lib.hid (by
              obtain ⟨A4, c4, e4⟩ := s4.form
              have hc : w4.cell? ⟨q, 2, none⟩ = some v4 := s4.b.cell 2
              unfold lenAt
              rw [hc, e4]
              simp only
              rw [HM.out]
              exact ⟨hl4, hn4⟩)
            clear s4 r4 t4 ha4 hl4 hn4 hq4
            go_wp2
            go_roundw
            case rel => exact H4.out
            case measure => have h1 := HL4.out; have h2 := HLA.out; omega
    · have hmn' : ¬ (m : Int) < (n : Int) := by omega
      have HD : Hid (R = (0, l', a')) := Lib.hid (by rw [RE.out, seq_done (by have := HM.out; omega)])
      go_wp2_with fail
      go_region
      go_wp2
      go_ret
      rw [HD.out]
      exact ⟨rfl, fun _ => ⟨_, S'.out.below (below_draws wr 1), RD.out⟩, OO.out.draws 1⟩
end
end Go.Proofs.YtnkninjdpgpkmaaGreatDoor.Kv
namespace Go.Proofs.YtnkninjdpgpkmaaGreatDoor.Kk
open Go.RowKit Go.Proofs.YtnkninjdpgpkmaaGreatDoor.Vm Go.Proofs.YtnkninjdpgpkmaaGreatDoor.Vo Go.Proofs.YtnkninjdpgpkmaaGreatDoor.Bw Go.Proofs.YtnkninjdpgpkmaaGreatDoor.Bm Go.Proofs.YtnkninjdpgpkmaaGreatDoor.Br Go.Proofs.YtnkninjdpgpkmaaGreatDoor.Bs Go.Proofs.YtnkninjdpgpkmaaGreatDoor.Na Go.Proofs.YtnkninjdpgpkmaaGreatDoor.Nm Go.Proofs.YtnkninjdpgpkmaaGreatDoor.Pn Go.Proofs.YtnkninjdpgpkmaaGreatDoor.Ko Go.Proofs.YtnkninjdpgpkmaaGreatDoor.Ka Go.Proofs.YtnkninjdpgpkmaaGreatDoor.Kb Go.Proofs.YtnkninjdpgpkmaaGreatDoor.Km Go.Proofs.YtnkninjdpgpkmaaGreatDoor.Ks Go.Proofs.YtnkninjdpgpkmaaGreatDoor.Kc Go.Proofs.YtnkninjdpgpkmaaGreatDoor.Kd Go.Proofs.YtnkninjdpgpkmaaGreatDoor.Ke Go.Proofs.YtnkninjdpgpkmaaGreatDoor.Kf

/-- Heads that are not dynamic. -/
theorem readHead_plain {s : ByteArray} {a : Nat} (hs : s.size ≤ 281474976710656) (ha : a ≤ 8 * s.size) (hk : 8 * s.size - a < 3 ∨ peekN (num s.data.toList) (a + 1) 2 ≠ 2) (u : World) (c : Nat) (h : rd u c s a) :
    Calls Tryz.prog 125 #[.pointer (some ⟨c, 0, none⟩)] u (rdH c s a u) := by
  by_cases hl : 8 * s.size - a < 3
  · exact head_short' h hs ha hl
  · have hp := peekN_lt (num s.data.toList) (a + 1) 2
    have hk' : peekN (num s.data.toList) (a + 1) 2 ≠ 2 := hk.resolve_left hl
    rcases (show peekN (num s.data.toList) (a + 1) 2 = 0 ∨ peekN (num s.data.toList) (a + 1) 2 = 1 ∨ peekN (num s.data.toList) (a + 1) 2 = 3 by omega) with k | k | k
    · exact head_sto' h hs ha hl k
    · exact head_fix' h hs ha hl k
    · exact head_no' h hs ha hl k

/-- What the statements' read answers. -/
def gets (s : ByteArray) (w : World) (e : Ending) (w' : World) : Prop :=
  ∃ b k z A1 n1 c1 A2 n2 c2, e = .returned (.tuple #[hv b k z (.slice A1 n1 c1) (.slice A2 n2 c2), .int .i64 (headM (num s.data.toList) (8 * s.size) 0).1]) ∧
    isH w' (hv b k z (.slice A1 n1 c1) (.slice A2 n2 c2)) (headM (num s.data.toList) (8 * s.size) 0).2.1 ∧ Below w.heap.size w w'
def errs (x : Int) (w : World) (e : Ending) (w' : World) : Prop := ∃ b k z A1 n1 c1 A2 n2 c2, e = .returned (.tuple #[hv b k z (.slice A1 n1 c1) (.slice A2 n2 c2), .int .i64 x]) ∧ Below w.heap.size w w'
theorem Copy_none {p : Option Addr} {w : World} (h : noR p w) : Calls Tryz.prog 36 #[.pointer p] w fun e w' => e = .returned (.pointer none) ∧ w = w' := by
  go_enter Tryz.func36, Tryz.ntmps36
  go_wp2_with (go_at_call 69; refine (h).mono ?_; rintro e w' ⟨rfl, rfl⟩)
  go_ret
  exact ⟨rfl, rfl⟩
set_option maxRecDepth 100000 in
theorem Read_none {p : Option Addr} {w : World} (h : ∀ o, noR p (w.alloc o)) : Calls Tryz.prog 95 #[.pointer p] w fun e w' => e = .returned (.tuple #[.agg z5, .int .i64 25]) ∧ Below w.heap.size w w' := by
  obtain ⟨w1, hw1⟩ : ∃ w1, w1 = w.alloc (.cells z5 143) := ⟨_, rfl⟩
  have HB1 : Hid (Below w.heap.size w w1) := Lib.hid (by rw [hw1]; exact below_alloc _ _)
  have HR1 : Hid (Blk w1 w.heap.size 143 z5) := Lib.hid (by rw [hw1]; exact Blk.fresh _ _ _)
  have HN : Hid (noR p w1) := Lib.hid (by rw [hw1]; exact h _)
  go_enter Tryz.func95, Tryz.ntmps95
  go_wp2_with fail
  rw [← hw1]
  clear hw1 h
  refine (Copy_none HN.out).mono ?_
  rintro e w' ⟨rfl, hw⟩
  rw [← hw]
  clear hw
  go_wp2_with (refine wpList_store_row rfl 143 _ _ rfl w.heap.size z5 rfl rfl _ _ HR1.out sizeH rfl (one5 _ _ _ _ _ _ _ _ _) ?_)
  refine bodyPost_ret (v := .tuple #[.agg z5, .int .i64 25]) (results_cell2 rfl _ _ w.heap.size 143 z5 _ _ rfl rfl (setRow_heap _ _ _ _ _ _ HR1.out) Tryz.underlying143 rfl sizeH) rfl ?_
  exact ⟨rfl, Below_setRow HB1.out (Nat.le_refl _) _⟩
theorem Write_none {p : Option Addr} {w : World} (b : Bool) (k z : Int) (A1 : Option Addr) (n1 c1 : Nat) (A2 : Option Addr) (n2 c2 : Nat) (h : ∀ o, Go.Proofs.YtnkninjdpgpkmaaGreatDoor.Bn.none' p (w.alloc o)) :
    Calls Tryz.prog 80 #[.pointer p, hv b k z (.slice A1 n1 c1) (.slice A2 n2 c2)] w fun e w' => e = .returned (.int .i64 25) ∧ Below w.heap.size w w' := by
  go_enter Tryz.func80, Tryz.ntmps80
  go_wp2_with fail
  refine (Go.Proofs.YtnkninjdpgpkmaaGreatDoor.Bn.wPut_none 0 p _ (h _)).mono ?_
  rintro e w' ⟨rfl, hw⟩
  rw [← hw]
  clear hw
  go_wp2
  go_ret
  exact ⟨rfl, below_alloc _ _⟩
end Go.Proofs.YtnkninjdpgpkmaaGreatDoor.Kk
