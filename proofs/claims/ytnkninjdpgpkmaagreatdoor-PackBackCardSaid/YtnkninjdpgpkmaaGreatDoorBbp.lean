/-
  window: the method that stores bytes in place of the oldest ones.
  window: the method that reads bytes out of the ring.
  Conditions: as each theorem says.
-/
import Derived.Test.YtnkninjdpgpkmaaGreatDoorBat
namespace Go.Proofs.YtnkninjdpgpkmaaGreatDoor.Wx
open Go.RowKit Go.Proofs.YtnkninjdpgpkmaaGreatDoor.Vm Go.Proofs.YtnkninjdpgpkmaaGreatDoor.Bw Go.Proofs.YtnkninjdpgpkmaaGreatDoor.Br Go.Proofs.YtnkninjdpgpkmaaGreatDoor.Wr Go.Proofs.YtnkninjdpgpkmaaGreatDoor.Wc Go.Proofs.YtnkninjdpgpkmaaGreatDoor.Ww

theorem size_len (s : ByteArray) : s.data.toList.length = s.size := by rw [Array.length_toList]; rfl
theorem cut_drop (s : ByteArray) (k : Nat) : (s.extract k s.size).data.toList = s.data.toList.drop k := by
  simp [ByteArray.extract, ByteArray.copySlice, List.take_of_length_le]
theorem cut_take (s : ByteArray) (k : Nat) : (s.extract 0 k).data.toList = s.data.toList.take k := by
  simp [ByteArray.extract, ByteArray.copySlice]
theorem size_cut (s : ByteArray) (k : Nat) : (s.extract k s.size).size = s.size - k := by rw [← size_len, cut_drop, List.length_drop, size_len]

/-- A part of a slice, from x on. -/
theorem cut_low {A : Option Addr} {n cap x : Nat} (hx : x ≤ n) : ∃ A', (∀ u : World, (Instr.slice 62 (.slice A n cap) (some (.int .i64 (x : Int))) none none).run Tryz.prog u = .ok (.slice A' (n - x) (cap - x)) u) ∧ (∀ g, A = some ⟨g, 0, none⟩ → x < cap → A' = some ⟨g, x, none⟩) := by
  have h1 : (0 : Int) ≤ (x : Int) := by omega
  have h2 : (x : Int) ≤ (n : Int) := by omega
  refine ⟨if cap = x then A else A.map (·.add (x * 1)), fun u => ?_, fun g hA hc => ?_⟩
  · go_simp
  · rw [if_neg (by omega), hA]
    by_cases h0 : x = 0
    · subst h0; rfl
    · simp [Addr.add, h0]
/-- A part of a slice, up to x. -/
theorem cut_high {A : Option Addr} {n cap x : Nat} (hx : x ≤ cap) (u : World) : (Instr.slice 62 (.slice A n cap) none (some (.int .i64 (x : Int))) none).run Tryz.prog u = .ok (.slice A x cap) u := by
  have h1 : (0 : Int) ≤ (x : Int) := by omega
  have h2 : (x : Int) ≤ (cap : Int) := by omega
  have e : (A.map fun y => y.add 0) = A := by cases A <;> simp [Addr.add]
  go_simp
/-- .. as a law at the operation. -/
theorem wpList_cut {w : World} {ops : Array Oper} {rest : List Oper} {o : Oper} {a : Act} {Q : Exit → Act → World → Prop} (hgd : o.guard = none) (y i : Operand) (ho : o.op = .slice 62 y (some i) none none)
    (V I R : Value) (hV : a.eval y = V) (hI : a.eval i = I) (hr : ∀ u : World, (Instr.slice 62 V (some I) none none).run Tryz.prog u = .ok R u) (h : wpList Tryz.prog ops Q rest (a.put o.dst R) w) : wpList Tryz.prog ops Q (o :: rest) a w := by
  refine wpList_plain hgd fun K hK => ?_
  have e : (Instr.sliceAt 62 V (some I) none none).run Tryz.prog w = .ok R w := by
    rw [← hr w]; simp [Instr.sliceAt, run_underlying Tryz.underlying62]
  unfold Oper.wp execOp
  simp only [ho, Sem.run_bind, Sem.run_pure, Result.andThen_ok, hV, hI, Option.map_some, Option.map_none, e]
  exact hK _ _ h
theorem cap_le {w : World} {base : Nat} {e : TypeId} {A : Option Addr} {n cap : Nat} {l : List UInt8} (h : byts w base e (.slice A n cap) l) (hn : n = l.length) : n ≤ cap := by
  rcases h.2 with ⟨e0, h0⟩ | ⟨g, c, _, e1, _, _, h1, _⟩
  · omega
  · injection e1 with _ _ e2
    omega

set_option maxHeartbeats 1000000 in
set_option maxRecDepth 100000 in
theorem replace_any {base : Nat} {w : World} {g : Nat} {v : Value} {l : List UInt8} {x : Nat} (h : win base w g v l x) (s : ByteArray) (hs : s.size ≤ 32768) (hf : s.size = 0 ∨ l.length = 32768) :
    Calls Tryz.prog 93 #[.pointer (some ⟨g, 0, none⟩), .string s] w fun e w' => e = .returned (.tuple #[]) ∧ win base w' g v (rep l x s.data.toList) ((x + s.size) % 32768) ∧ Only (own g v) w w' := by
  have c1 := h.b.c1
  have c2 := h.b.c2
  obtain ⟨A, cap, hv⟩ := h.o.form
  subst hv
  have hxl := h.r.xle
  have hxm := h.r.lt
  have hcap := cap_le h.o rfl
  have hgr := Lib.hid (h.b.apart h.o)
  obtain ⟨n, hn⟩ : ∃ n, n = l.length := ⟨_, rfl⟩
  have HN := Lib.hid hn
  rw [← hn] at c1 hxl hf h hcap hgr ⊢
  clear hn
  obtain ⟨A', hcut, hA'⟩ := cut_low (A := A) (cap := cap) hxl
  have HA := Lib.hid hA'
  have H := Lib.hid h
  have H1 : 0 < n → ∃ gg, A = some ⟨gg, 0, none⟩ := fun h0 => by
    obtain ⟨gg, cap', e, _⟩ := H.out.o.block (by rw [← HN.out]; exact h0)
    injection e with e _ _
    exact ⟨gg, e⟩
  have HB := Lib.hid H1
  clear h hA' H1
  obtain ⟨k, hk⟩ : ∃ k, k = min s.size (n - x) := ⟨_, rfl⟩
  have HK := Lib.hid hk
  clear hk
  go_enter Tryz.func93, Tryz.ntmps93
  go_wp2_with fail
  go_still_tail 10, (by kernel_rfl)
  refine wpList_copy_str rfl _ _ 62 9 rfl 5 Tryz.underlying62 size8 A' (n - x) (cap - x) rfl s rfl k HK.out base (.slice A n cap) l H.out.o x ?p1 ?p2 ?_
  case p1 =>
    intro hk0
    have := HK.out
    obtain ⟨gg, hgg⟩ := HB.out (by omega)
    exact ⟨gg, by rw [hgg]; rfl, HA.out gg hgg (by omega)⟩
  case p2 => have := HK.out; rw [← HN.out]; omega
  intro w1 B1 O1
  have b1 : wb w1 g (.slice A n cap) x := wb.only (w := w.drew) (S := of (.slice A n cap)) H.out.b O1.out (fun e => hgr.out g e rfl)
  have W1 := Lib.hid b1
  have k1 := b1.c1
  have k2 := b1.c2
  have hks : k ≤ s.size := by have := HK.out; omega
  clear c1 c2 hcut b1
  go_wp2_with fail
  go_still_tail 7, (by kernel_rfl)
  change wpList _ _ _ _ _ w1.drew
  obtain ⟨l1, hl1⟩ : ∃ l1, l1 = splice l x (s.data.toList.take k) := ⟨_, rfl⟩
  have HL := Lib.hid hl1
  rw [← hl1] at B1
  clear hl1
  have hll : l1.length = n := by
    rw [HL.out, splice_len, ← HN.out]
    rw [List.length_take, size_len, ← HN.out]; have := HK.out; omega
  have HLL := Lib.hid hll
  clear hll
  refine wpList_copy_str rfl _ _ 62 9 rfl 5 Tryz.underlying62 size8 A n cap rfl (s.extract k s.size) rfl (s.size - k) ?q0 base (.slice A n cap) l1 B1.out 0 ?q1 ?q2 ?_
  case q0 => rw [size_cut]; have := HK.out; omega
  case q1 =>
    intro hk0
    obtain ⟨gg, hgg⟩ := HB.out (by omega)
    exact ⟨gg, by rw [hgg]; rfl, hgg⟩
  case q2 => rw [HLL.out]; omega
  intro w2 B2 O2
  have b2 : wb w2 g (.slice A n cap) x := wb.only (w := w1.drew) (S := of (.slice A n cap)) W1.out O2.out (fun e => hgr.out g e rfl)
  have W2 := Lib.hid b2
  have j1 := b2.c2
  have j2 := b2.f2
  clear k1 k2 b2
  go_wp2
  go_end0
  have e : rep l x s.data.toList = splice l1 0 ((s.extract k s.size).data.toList.take (s.size - k)) := by
    have e1 : (s.data.toList.drop k).take (s.size - k) = s.data.toList.drop k := List.take_of_length_le (by rw [List.length_drop, size_len]; exact Nat.le_refl _)
    unfold rep
    rw [size_len, ← HN.out, ← HK.out, HL.out, cut_drop, e1]
  have o12 : Only (own g (.slice A n cap)) w w2 := ((undrew O1.out).trans (undrew O2.out)).mono (fun i hi => .inr hi)
  refine ⟨rfl, ⟨W2.out.next (by omega), ?_, ?_, H.out.g0⟩, o12.store (.inl (.inl rfl)) _⟩
  · rw [e]
    exact B2.out.only ((Only.refl (fun k => k = g) w2).store (p := ⟨g, 2, none⟩) (.inl rfl) _) (fun i hi e => hgr.out i hi e)
  · rcases hf with h0 | h0
    · have h1 : s.data.toList = [] := List.eq_nil_of_length_eq_zero (by rw [size_len]; exact h0)
      rw [h1, rep_nil, h0, Nat.add_zero, Nat.mod_eq_of_lt hxm]
      exact H.out.r
    · have h2 := rep_ring (s := s.data.toList) (HN.out.symm.trans h0) hxm (by rw [size_len]; exact hs)
      rw [size_len] at h2
      exact h2
end Go.Proofs.YtnkninjdpgpkmaaGreatDoor.Wx
namespace Go.Proofs.YtnkninjdpgpkmaaGreatDoor.Wq
open Go.RowKit Go.Proofs.YtnkninjdpgpkmaaGreatDoor.Vm Go.Proofs.YtnkninjdpgpkmaaGreatDoor.Bw Go.Proofs.YtnkninjdpgpkmaaGreatDoor.Br Go.Proofs.YtnkninjdpgpkmaaGreatDoor.Wr Go.Proofs.YtnkninjdpgpkmaaGreatDoor.Wc Go.Proofs.YtnkninjdpgpkmaaGreatDoor.Ww Go.Proofs.YtnkninjdpgpkmaaGreatDoor.Wx

theorem splice_two {α : Type} (L a b : List α) : splice (splice L 0 a) a.length b = splice L 0 (a ++ b) := by
  have e : a ++ L.drop a.length = splice L 0 a := by unfold splice; rw [List.take_zero, List.nil_append, Nat.zero_add]
  have e2 : a.drop (a.length + b.length) = [] := List.drop_eq_nil_of_le (by omega)
  rw [← e]
  unfold splice
  rw [List.take_append_of_le_length (Nat.le_refl _), List.take_length, List.take_zero, List.nil_append, List.drop_append, e2, List.nil_append, List.drop_drop, List.length_append]
  rw [show a.length + (a.length + b.length - a.length) = 0 + (a.length + b.length) by omega, List.append_assoc]

theorem at_int {x n d a : Nat} (hx : x < 32768) (hn : n ≤ 32768) (hd : d ≤ n) (ha : a = (x + n - d) % 32768) : (IntKind.i64.wrap (IntKind.i64.wrap ((x : Int) + (n : Int)) - (d : Int))).tmod 32768 = (a : Int) := by
  rw [IntWalk.i64_in ((x : Int) + (n : Int)) (by omega), IntWalk.i64_in _ (by omega), show (x : Int) + (n : Int) - (d : Int) = ((x + n - d : Nat) : Int) by omega, ha]
  rfl

set_option maxHeartbeats 1000000 in
set_option maxRecDepth 100000 in
theorem read_any {base base2 : Nat} {w : World} {g : Nat} {v u : Value} {l B : List UInt8} {x : Nat} (h : win base w g v l x) {b k oc d : Nat} (hB : byts w base2 5 u B) (hu : u.ownBlock = some b) (hv : v.ownBlock ≠ some b) (hk : k ≤ B.length) (hkc : k ≤ oc) (hkd : k ≤ d) (hd : d ≤ l.length) :
    Calls Tryz.prog 108 #[.pointer (some ⟨g, 0, none⟩), .slice (some ⟨b, 0, none⟩) k oc, .int .i64 d] w fun e w' => e = .returned (.tuple #[]) ∧ byts w' base2 5 u (splice B 0 ((Wm.lastN d (cont l x)).take k)) ∧ Only (of u) w w' := by
  have c1 := h.b.c1
  have c2 := h.b.c2
  obtain ⟨A, cap, hv'⟩ := h.o.form
  subst hv'
  have hxm := h.r.lt
  have hle := h.r.le
  have hcap := cap_le h.o rfl
  have hug := Lib.hid (h.b.apart hB)
  have hat := atX_le h.r hd
  have HR := Lib.hid (read_ring h.r hd hkd)
  obtain ⟨a, ha⟩ : ∃ a, a = atX 32768 l x d := ⟨_, rfl⟩
  rw [← ha] at hat HR
  have hae : a = (x + l.length - d) % 32768 := ha
  obtain ⟨n, hn⟩ : ∃ n, n = l.length := ⟨_, rfl⟩
  have HN := Lib.hid hn
  rw [← hn] at c1 h hcap hd hle hat hae hv
  have hai := Lib.hid (at_int hxm hle hd hae)
  clear hn ha hae
  obtain ⟨A', hcut, hA'⟩ := cut_low (A := A) (cap := cap) hat
  have HA := Lib.hid hA'
  have H := Lib.hid h
  have HB := Lib.hid hB
  have HU := Lib.hid hu
  have HV := Lib.hid hv
  have H1 : 0 < n → ∃ gg, A = some ⟨gg, 0, none⟩ := fun h0 => by
    obtain ⟨gg, cap', e, _⟩ := H.out.o.block (by rw [← HN.out]; exact h0)
    injection e with e _ _
    exact ⟨gg, e⟩
  have HG := Lib.hid H1
  clear h hA' H1 hB hu hv
  obtain ⟨n1, hn1⟩ : ∃ n1, n1 = min (n - a) k := ⟨_, rfl⟩
  have HK := Lib.hid hn1
  have hn1k : n1 ≤ k := by omega
  clear hn1
  obtain ⟨O', hcut2, hO'⟩ := cut_low (A := some ⟨b, 0, none⟩) (cap := oc) hn1k
  have HO := Lib.hid hO'
  clear hO'
  go_enter Tryz.func108, Tryz.ntmps108
  go_wp2_with fail
  go_still_tail 13, (by kernel_rfl)
  rw [hai.out]
  clear hai
  have HAT := Lib.hid hat
  clear hat
  go_wp2_with (first | (refine wpList_cut rfl (.tmp 25) (.tmp 26) rfl (.slice A n cap) (.int .i64 a) (.slice A' (n - a) (cap - a)) rfl rfl hcut ?_) | refine wpList_copy_sl rfl (.tmp 21) (.tmp 27) 62 62 rfl 5 Tryz.underlying62 size8 (some ⟨b, 0, none⟩) A' k oc (n - a) (cap - a) rfl rfl n1 HK.out base2 u B HB.out 0 ((l.drop a).take n1) ?p0 ?p1 ?p2 ?_)
  case p0 => rw [List.length_take, List.length_drop, ← HN.out]; have := HK.out; omega
  case p1 =>
    intro h0
    have := HK.out
    have := HAT.out
    obtain ⟨gg, hgg⟩ := HG.out (by omega)
    refine ⟨⟨b, HU.out, rfl⟩, gg, a, HA.out gg hgg (by omega), fun j hj => ?_⟩
    have e : w.drew.cell? ⟨gg, a + j, none⟩ = l[a + j]?.map Vm.B := byts.cell (cap := cap) (by rw [← hgg]; exact H.out.o) HN.out (a + j) (by omega)
    rw [List.getElem?_take, if_pos hj, List.getElem?_drop]
    exact e
  case p2 => omega
  intro w1 B1 O1
  have b1 : win base w1 g (.slice A n cap) l x := win.only (w := w.drew) (S := of u) ⟨H.out.b, H.out.o, H.out.r, H.out.g0⟩ O1.out (fun i hi e => by
    rcases hi with rfl | hi
    · exact hug.out _ e rfl
    · have e' : u.ownBlock = some i := e
      rw [HU.out] at e'
      exact HV.out (by rw [e']; exact hi))
  have W1 := Lib.hid b1
  have k1 := b1.b.c1
  clear c1 c2 hcut b1
  go_wp2_with fail
  go_still_tail 7, (by kernel_rfl)
  change wpList _ _ _ _ _ w1.drew
  obtain ⟨L1, hL1⟩ : ∃ L1, L1 = splice B 0 ((l.drop a).take n1) := ⟨_, rfl⟩
  have HL := Lib.hid hL1
  rw [← hL1] at B1
  clear hL1
  have hl1 : ((l.drop a).take n1).length = n1 := by
    rw [List.length_take, List.length_drop, ← HN.out]; have := HK.out; omega
  have HLA := Lib.hid hl1
  have HLL : Hid (L1.length = B.length) := Lib.hid (by rw [HL.out, splice_len]; rw [hl1]; omega)
  clear hl1
  refine wpList_copy_sl rfl (.tmp 31) (.tmp 35) 62 62 rfl 5 Tryz.underlying62 size8 O' A (k - n1) (oc - n1) n cap rfl rfl (k - n1) ?q0 base2 u L1 B1.out n1 (l.take (k - n1)) ?q1 ?q2 ?q3 ?_
  case q0 => have := HK.out; omega
  case q1 => rw [List.length_take, ← HN.out]; omega
  case q2 =>
    intro h0
    obtain ⟨gg, hgg⟩ := HG.out (by omega)
    refine ⟨⟨b, HU.out, HO.out b rfl (by omega)⟩, gg, 0, hgg, fun j hj => ?_⟩
    have e : w1.drew.cell? ⟨gg, j, none⟩ = l[j]?.map Vm.B := byts.cell (cap := cap) (by rw [← hgg]; exact W1.out.o) HN.out j (by omega)
    rw [List.getElem?_take, if_pos hj, Nat.zero_add]
    exact e
  case q3 => rw [HLL.out]; omega
  intro w2 B2 O2
  clear k1
  go_wp2
  go_end0
  refine ⟨rfl, ?_, (undrew O1.out).trans (undrew O2.out)⟩
  have e : splice L1 n1 (l.take (k - n1)) = splice B 0 ((Wm.lastN d (cont l x)).take k) := by
    have e1 := splice_two B ((l.drop a).take n1) (l.take (k - n1))
    rw [HLA.out] at e1
    have e2 := HR.out
    have e3 : min k (l.length - a) = n1 := by have := HK.out; rw [← HN.out]; omega
    rw [e3] at e2
    rw [HL.out, e1, e2]
  rw [← e]
  exact B2.out
end Go.Proofs.YtnkninjdpgpkmaaGreatDoor.Wq
