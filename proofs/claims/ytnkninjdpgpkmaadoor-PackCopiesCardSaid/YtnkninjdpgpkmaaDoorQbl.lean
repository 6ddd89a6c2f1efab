/-
  A text in pieces: pieces, partOf and Split: their results.
  The packer's ops: number, op and ops: what is written, and what is wrong.
  Conditions: as each theorem says.
-/
import Derived.Test.YtnkninjdpgpkmaaDoorQbk
import Derived.Test.YtnkninjdpgpkmaaDoorQat
import Derived.Deep.LoopGhost
import Derived.Test.YtnkninjdpgpkmaaDoorQbj
import Derived.Test.YtnkninjdpgpkmaaDoorQaf
namespace Go.Proofs.YtnkninjdpgpkmaaDoor.Hs
open Go.RowKit Go.Proofs.YtnkninjdpgpkmaaDoor.Vm Go.Proofs.YtnkninjdpgpkmaaDoor.Vo Go.Proofs.YtnkninjdpgpkmaaDoor.Bm Go.Proofs.YtnkninjdpgpkmaaDoor.Bw Go.Proofs.YtnkninjdpgpkmaaDoor.Na Go.Proofs.YtnkninjdpgpkmaaDoor.Ke Go.Proofs.YtnkninjdpgpkmaaDoor.Gm Go.Proofs.YtnkninjdpgpkmaaDoor.Gr Go.Proofs.YtnkninjdpgpkmaaDoor.Gp Go.Proofs.YtnkninjdpgpkmaaDoor.Hm Go.Proofs.YtnkninjdpgpkmaaDoor.Gt Go.Proofs.YtnkninjdpgpkmaaDoor.Ho Go.Proofs.YtnkninjdpgpkmaaDoor.Hp Go.Proofs.YtnkninjdpgpkmaaDoor.Ira

/-- The pieces of m bytes from off on, n each: where they begin, how many bytes they have. -/
def pcsF (n : Nat) : Nat → Nat → Nat → List (Nat × Nat)
  | 0, off, m => [(off, m)]
  | f + 1, off, m => if n < m then (off, n) :: pcsF n f (off + n) (m - n) else [(off, m)]
def pcs (n N : Nat) : List (Nat × Nat) := pcsF n N 0 N
theorem pcsF_end {n f off m : Nat} (h : ¬ n < m) : pcsF n f off m = [(off, m)] := by
  cases f with
  | zero => rfl
  | succ f => rw [pcsF, if_neg h]
theorem pcsF_next {n f off m : Nat} (h : n < m) : pcsF n (f + 1) off m = (off, n) :: pcsF n f (off + n) (m - n) := by rw [pcsF, if_pos h]
theorem pcsF_in (n : Nat) : ∀ f off m, ∀ x ∈ pcsF n f off m, off ≤ x.1 ∧ x.1 + x.2 ≤ off + m
  | 0, off, m, x, hx => by
    simp only [pcsF, List.mem_singleton] at hx
    subst hx; exact ⟨Nat.le_refl _, Nat.le_refl _⟩
  | f + 1, off, m, x, hx => by
    rw [pcsF] at hx
    by_cases h : n < m
    · rw [if_pos h] at hx
      rcases List.mem_cons.1 hx with rfl | hx
      · exact ⟨Nat.le_refl _, by show off + n ≤ off + m; omega⟩
      · have := pcsF_in n f (off + n) (m - n) x hx
        omega
    · rw [if_neg h] at hx
      simp only [List.mem_singleton] at hx
      subst hx; exact ⟨Nat.le_refl _, Nat.le_refl _⟩
theorem pcsF_len (n : Nat) : ∀ f off m, (pcsF n f off m).length ≤ f + 1
  | 0, off, m => by simp [pcsF]
  | f + 1, off, m => by
    rw [pcsF]
    split
    · have := pcsF_len n f (off + n) (m - n)
      simp only [List.length_cons]; omega
    · simp
theorem pcsF_pos (n : Nat) : ∀ f off m, 0 < (pcsF n f off m).length
  | 0, off, m => by simp [pcsF]
  | f + 1, off, m => by
    rw [pcsF]
    split <;> simp
/-- Slices of a block. -/
def Sl (g : Nat) (L : List (Nat × Nat)) : List Value := L.map (fun x => .slice (some ⟨g, x.1, none⟩) x.2 x.2)
theorem infoSl : (Tryd.prog.info? 50).map (fun i => (i.zero, i.size, i.bytes)) = some (some (.slice none 0 0), 1, 24) := by kernel_rfl
theorem sl_cell (w : World) (v : Value) (e : TypeId) : ∀ (j : Nat) (u : Value), ([v] : List Value)[j]? = some u → (w.alloc (.cells #[v] e)).cell? ((⟨w.heap.size, 0, none⟩ : Addr).add j) = some u := by
  intro j u hu
  rw [Go.WideShapes.add_plain, Nat.zero_add, Blk.cell (Blk.fresh w e _) j, ← hu]
  simp
theorem sl_one (A : Option Addr) (n c : Nat) : ∀ u ∈ ([.slice A n c] : List Value), u.oneCell' = true := by
  intro u hu
  simp at hu
  subst hu; rfl
set_option maxHeartbeats 2000000 in
set_option maxRecDepth 100000 in
theorem pieces_any {w : World} {g N cap n : Nat} (hc : N ≤ cap) (hN : N ≤ 1000000) (hn : 1 ≤ n) (hn2 : n ≤ 65535) :
    Calls Tryd.prog 19 #[.slice (some ⟨g, 0, none⟩) N cap, .int .i64 (n : Int)] w fun e w' => ∃ A k c, e = .returned (.slice A k c) ∧ k = (pcs n N).length ∧ w'.ownsRow w.heap.size 50 1 (.slice A k c) k (Sl g (pcs n N)) ∧ Below w.heap.size w w' := by
  obtain ⟨i0, hi, hz0, hz1, hz2⟩ := info_parts infoSl
  obtain ⟨P, hP⟩ : ∃ P, P = pcs n N := ⟨_, rfl⟩
  rw [← hP]
  have HP := Lib.hid hP
  clear hP
  go_enter Tryd.func19, Tryd.ntmps19
  go_wp2
  go_loopg [0, 5] N (fun gk s0 s5 wr => ∃ (off m cp k c f : Nat) (A : Option Addr) (pre : List (Nat × Nat)), s0 = .slice (some ⟨g, off, none⟩) m cp ∧ s5 = .slice A k c ∧ gk = m ∧ off + m = N ∧ m ≤ cp ∧ m ≤ f ∧ k + m ≤ N ∧ Hid (k = pre.length) ∧ Hid (P = pre ++ pcsF n f off m) ∧ Hid (wr.ownsRow w.heap.size 50 1 (.slice A k c) k (Sl g pre)) ∧ Hid (Below w.heap.size w wr))
  case atStart => exact ⟨0, N, cap, 0, 0, N, none, [], rfl, rfl, rfl, by omega, hc, Nat.le_refl _, by omega, Lib.hid rfl, Lib.hid HP.out, Lib.hid (World.ownsRow_nil _ _ _ _), Lib.hid (Below.refl _ _)⟩
  case round =>
    obtain ⟨off, m, cp, k, c, f, A, pre, rfl, rfl, rfl, ho, hmc, hmf, hkm, HK, HPP, HO, HB⟩ := hrel
    by_cases hnm : n < gk
    · have hnm' : (n : Int) < (gk : Int) := by omega
      have hn0 : (0 : Int) ≤ (n : Int) := by omega
      have hnc : (n : Int) ≤ (cp : Int) := by omega
      have hnc2 : n ≤ cp := by omega
      have hng : n ≤ gk := by omega
      obtain ⟨f', hf'⟩ : ∃ f', f = f' + 1 := ⟨f - 1, by omega⟩
      have HPN : Hid (P = (pre ++ [(off, n)]) ++ pcsF n f' (off + n) (gk - n)) := Lib.hid (by rw [HPP.out, hf', pcsF_next hnm, List.append_assoc]; rfl)
      obtain ⟨w1, hw1⟩ : ∃ w1, w1 = wr.alloc (.cells #[.slice (some ⟨g, off, none⟩) n n] 50) := ⟨_, rfl⟩
      have B1 : Hid (Below wr.heap.size wr w1) := Lib.hid (by rw [hw1]; exact below_alloc _ _)
      have HO1 : Hid (w1.ownsRow w.heap.size 50 1 (.slice A k c) k (Sl g pre)) := Lib.hid (by rw [hw1]; exact HO.out.alloc _)
      have HNC : Hid (∀ (j : Nat) (u : Value), ([.slice (some ⟨g, off, none⟩) n n] : List Value)[j]? = some u → w1.cell? ((⟨wr.heap.size, 0, none⟩ : Addr).add j) = some u) := Lib.hid (by rw [hw1]; exact sl_cell wr _ _)
      have BB1 := Lib.hid (grows HB.out B1.out)
      have HKL := Lib.hid (show k + 1 ≤ 1000001 by omega)
      go_wp2_with (at_builtin; rw [← hw1]; refine wpList_append_own_at _ rfl _ _ 48 rfl w.heap.size 50 i0 (.slice none 0 0) 1 24 Tryd.underlying48 hi hz0 hz1 hz2 rfl (by decide) _ k (Sl g pre) rfl HO1.out ⟨wr.heap.size, 0, none⟩ 1 1 [.slice (some ⟨g, off, none⟩) n n] rfl rfl HNC.out (sl_one _ _ _) ?a3 ?a4 ?a5 ?_)
      case a3 => unfold maxLen; have := HKL.out; omega
      case a4 => have := HKL.out; omega
      case a5 => exact BB1.out.size
      intro v3 w5 hown hgrow _ _
      have O5 : Hid (Only (fun i => (Value.slice A k c).ownBlock = some i) w1 w5) := Lib.hid (by first | exact (Only.refl _ w1).grown hgrow (fun i hi _ => hi) | (rw [← hw1] at hgrow; exact (Only.refl _ w1).grown hgrow (fun i hi _ => hi)))
      have B5 : Hid (Below w.heap.size w w5) := Lib.hid (O5.out.below BB1.out BB1.out.size (fun i hi => (HO1.out.lt i hi).1))
      obtain ⟨A5, c5, hv5⟩ : ∃ A5 c5, v3 = .slice A5 (k + 1) c5 := by
        rcases hown.2 with ⟨rfl, h0⟩ | ⟨g, cap, _, rfl, _⟩
        · omega
        · exact ⟨_, cap, rfl⟩
      subst hv5
      have OW5 : Hid (w5.ownsRow w.heap.size 50 1 (.slice A5 (k + 1) c5) (k + 1) (Sl g (pre ++ [(off, n)]))) := Lib.hid (by unfold Sl at hown ⊢; rw [List.map_append]; exact hown)
      obtain ⟨k', hk'⟩ : ∃ k', k' = k + 1 := ⟨_, rfl⟩
      rw [← hk'] at OW5 ⊢
      have HK' : Hid (k' = (pre ++ [(off, n)]).length ∧ k' + (gk - n) ≤ N) := Lib.hid ⟨by rw [hk', List.length_append, HK.out]; rfl, by omega⟩
      have hnc3 : n < cp := by omega
      have hnc4 : ¬ cp = n := by omega
      have HFF := Lib.hid hf'
      clear hown hgrow hk' hf' hw1
      have hnk : k + gk ≤ N := hkm
      have HPQ := Lib.hid (show gk - n < gk by omega)
      have HFQ := Lib.hid (show off + n + (gk - n) = N ∧ gk - n ≤ cp - n ∧ gk - n ≤ f' by have := HFF.out; omega)
      clear hnk
      go_wp2
      go_roundg (gk - n)
      case measure => exact HPQ.out
      case rel => exact ⟨off + n, gk - n, cp - n, k', c5, f', A5, pre ++ [(off, n)], rfl, rfl, rfl, HFQ.out.1, HFQ.out.2.1, HFQ.out.2.2, HK'.out.2, Lib.hid HK'.out.1, HPN, OW5, B5⟩
    · have hnm' : ¬ (n : Int) < (gk : Int) := by omega
      have hgc : (gk : Int) ≤ (cp : Int) := by omega
      have hg0 : (0 : Int) ≤ (gk : Int) := by omega
      have HPE : Hid (P = pre ++ [(off, gk)]) := Lib.hid (by rw [HPP.out, pcsF_end hnm])
      obtain ⟨w1, hw1⟩ : ∃ w1, w1 = wr.alloc (.cells #[.slice (some ⟨g, off, none⟩) gk gk] 50) := ⟨_, rfl⟩
      have B1 : Hid (Below wr.heap.size wr w1) := Lib.hid (by rw [hw1]; exact below_alloc _ _)
      have HO1 : Hid (w1.ownsRow w.heap.size 50 1 (.slice A k c) k (Sl g pre)) := Lib.hid (by rw [hw1]; exact HO.out.alloc _)
      have HNC : Hid (∀ (j : Nat) (u : Value), ([.slice (some ⟨g, off, none⟩) gk gk] : List Value)[j]? = some u → w1.cell? ((⟨wr.heap.size, 0, none⟩ : Addr).add j) = some u) := Lib.hid (by rw [hw1]; exact sl_cell wr _ _)
      have BB1 := Lib.hid (grows HB.out B1.out)
      have HKL := Lib.hid (show k + 1 ≤ 1000001 by omega)
      clear hnm
      go_wp2_with (at_builtin; rw [← hw1]; refine wpList_append_own_at _ rfl _ _ 48 rfl w.heap.size 50 i0 (.slice none 0 0) 1 24 Tryd.underlying48 hi hz0 hz1 hz2 rfl (by decide) _ k (Sl g pre) rfl HO1.out ⟨wr.heap.size, 0, none⟩ 1 1 [.slice (some ⟨g, off, none⟩) gk gk] rfl rfl HNC.out (sl_one _ _ _) ?b3 ?b4 ?b5 ?_)
      case b3 => unfold maxLen; have := HKL.out; omega
      case b4 => have := HKL.out; omega
      case b5 => have := HB.out.size; first | exact BB1.out.size | omega
      intro v3 w5 hown hgrow _ _
      have O5 : Hid (Only (fun i => (Value.slice A k c).ownBlock = some i) w1 w5) := Lib.hid (by first | exact (Only.refl _ w1).grown hgrow (fun i hi _ => hi) | (rw [← hw1] at hgrow; exact (Only.refl _ w1).grown hgrow (fun i hi _ => hi)))
      have B5 : Hid (Below w.heap.size w w5) := Lib.hid (O5.out.below BB1.out BB1.out.size (fun i hi => (HO1.out.lt i hi).1))
      obtain ⟨A5, c5, hv5⟩ : ∃ A5 c5, v3 = .slice A5 (k + 1) c5 := by
        rcases hown.2 with ⟨rfl, h0⟩ | ⟨g, cap, _, rfl, _⟩
        · omega
        · exact ⟨_, cap, rfl⟩
      subst hv5
      have OW5 : Hid (w5.ownsRow w.heap.size 50 1 (.slice A5 (k + 1) c5) (k + 1) (Sl g (pre ++ [(off, gk)]))) := Lib.hid (by unfold Sl at hown ⊢; rw [List.map_append]; exact hown)
      clear hown hgrow hw1
      go_wp2
      go_ret
      exact ⟨A5, k + 1, c5, rfl, by rw [HPE.out, List.length_append, HK.out]; rfl, by rw [HPE.out]; exact OW5.out, B5.out⟩

/-- A part of a text's piece: its number, its text, its ops. -/
structure Sp where
  k : Nat
  t : List UInt8
  os : List Opx
noncomputable def sp (i : Nat) (x : List UInt8) : Sp := if i % 2 = 0 then ⟨0, x, []⟩ else ⟨1, [], opsM x 0⟩
/-- .. in memory: where its ops lie. -/
structure Pc where
  k : Nat
  t : ByteArray
  os : List Opx
  A : Option Addr
  c : Nat
def Pc.sp (p : Pc) : Sp := ⟨p.k, p.t.data.toList, p.os⟩
def Pc.cells (p : Pc) : List Value := [.int .i64 (p.k : Int), .string p.t, .slice p.A p.os.length p.c, .slice none 0 0, .slice none 0 0]
def Pc.pz (p : Pc) : Pz := ⟨(p.k : Int), p.t, p.os.map Opx.int, 0, fun _ => 0, 0, fun _ => 0⟩
structure pcM (base : Nat) (w : World) (p : Pc) : Prop where
  o : opo base w (.slice p.A p.os.length p.c) p.os
  n : ∀ o ∈ p.os, o.n ≤ 1000000000 ∧ o.d ≤ 1000000000
  l : p.os.length ≤ 1000000
  k : p.k ≤ 1
theorem pcM.below {base : Nat} {w w' : World} {p : Pc} (h : pcM base w p) (k : Below w.heap.size w w') : pcM base w' p := ⟨h.o.below k, h.n, h.l, h.k⟩
theorem pcM.lower {base b : Nat} {w : World} {p : Pc} (h : pcM base w p) (hb : b ≤ base) : pcM b w p := by
  refine ⟨⟨h.o.1, ?_⟩, h.n, h.l, h.k⟩
  rcases h.o.2 with h0 | ⟨g, cap, cur, e1, e2, e3⟩
  · exact .inl h0
  · exact .inr ⟨g, cap, cur, e1, Nat.le_trans hb e2, e3⟩
theorem sizePt : (Tryd.prog.info? 38).map (·.size) = some 5 := by kernel_rfl
theorem one5 (k : Int) (t : ByteArray) (A1 : Option Addr) (n1 c1 : Nat) (A2 : Option Addr) (n2 c2 : Nat) (A3 : Option Addr) (n3 c3 : Nat) : (#[.int .i64 k, .string t, .slice A1 n1 c1, .slice A2 n2 c2, .slice A3 n3 c3] : Array Value).all (·.oneCell') = true := by simp [Value.oneCell']
theorem ba_list (s : ByteArray) : (⟨s.data.toList.toArray⟩ : ByteArray) = s := by cases s; simp
theorem opsM_len (l : List UInt8) : (opsM l 0).length ≤ l.length := by
  have h := (opsM_make l [] l.length 0 (by omega) (Nat.zero_le _)).2.2
  omega
set_option maxHeartbeats 1000000 in
set_option maxRecDepth 100000 in
theorem partOf_any {i : Nat} {s : ByteArray} (hi : i ≤ 1000001) (hs : s.size ≤ 1000000) (w : World) :
    Calls Tryd.prog 20 #[.int .i64 (i : Int), .string s] w fun e w' => ∃ p : Pc, e = .returned (.agg #[.int .i64 (p.k : Int), .string p.t, .slice p.A p.os.length p.c, .slice none 0 0, .slice none 0 0]) ∧ p.sp = sp i s.data.toList ∧ pcM w.heap.size w' p ∧ Below w.heap.size w w' := by
  obtain ⟨w1, hw1⟩ : ∃ w1, w1 = w.alloc (.cells #[.int .i64 0, .string ⟨#[]⟩, .slice none 0 0, .slice none 0 0, .slice none 0 0] 38) := ⟨_, rfl⟩
  have B1 : Hid (Below w.heap.size w w1) := Lib.hid (by rw [hw1]; exact below_alloc _ _)
  have K1 : Hid (Blk w1 w.heap.size 38 #[.int .i64 0, .string ⟨#[]⟩, .slice none 0 0, .slice none 0 0, .slice none 0 0]) := Lib.hid (by rw [hw1]; exact Blk.fresh _ _ _)
  by_cases h0 : i % 2 = 0
  · have hm2 : ((i : Int) % 2 == 0) = true := by simp; omega
    have HSP : Hid (sp i s.data.toList = ⟨0, s.data.toList, []⟩) := Lib.hid (by unfold sp; rw [if_pos h0])
    clear h0
    go_enter Tryd.func20, Tryd.ntmps20
    go_wp2_with (first | (rw [← hw1]; refine wpList_store_row rfl 38 _ _ rfl w.heap.size #[.int .i64 0, .string s, .slice none 0 0, .slice none 0 0, .slice none 0 0] rfl rfl _ _ K1.out sizePt rfl (one5 _ _ _ _ _ _ _ _ _ _ _) ?_))
    refine bodyPost_ret (v := .agg #[.int .i64 0, .string s, .slice none 0 0, .slice none 0 0, .slice none 0 0]) (results_cell_row rfl _ _ w.heap.size 38 _ _ _ rfl (setRow_heap _ _ _ _ _ _ K1.out) Tryd.underlying38 rfl sizePt) rfl ?_
    refine ⟨⟨0, s, [], none, 0⟩, rfl, by rw [HSP.out]; rfl, ⟨opo_nil _ _, fun o h => (by cases h), Nat.zero_le _, Nat.zero_le _⟩, (only_row (S := fun i => i = w.heap.size) (Only.refl _ _) rfl _).below B1.out B1.out.size (fun i hi => by rw [hi]; exact Nat.le_refl _)⟩
  · have hm2 : ((i : Int) % 2 == 0) = false := by simp; omega
    have HSP : Hid (sp i s.data.toList = ⟨1, [], opsM s.data.toList 0⟩) := Lib.hid (by unfold sp; rw [if_neg h0])
    have HOP := Lib.hid (Ops_any hs w1)
    have HSL : Hid (s.data.toList.length ≤ 1000000) := Lib.hid (by rw [sz]; exact hs)
    clear h0
    go_enter Tryd.func20, Tryd.ntmps20
    go_wp2_with fail
    rw [← hw1]
    clear hw1
    refine HOP.out.mono ?_
    rintro e w2 ⟨A, n, c, rfl, o2, l2, b2⟩
    have O2 := Lib.hid o2
    have L2 := Lib.hid l2
    have B2 := Lib.hid (grows B1.out b2)
    have K2 := Lib.hid (K1.out.below b2)
    have hnl : n = (opsM s.data.toList 0).length := by
      obtain ⟨A', cap', e⟩ := o2.form
      injection e
    have HNL := Lib.hid hnl
    obtain ⟨Z0, hZ0⟩ : ∃ Z0 : ByteArray, Z0 = ⟨#[]⟩ := ⟨_, rfl⟩
    have HZ0 := Lib.hid hZ0
    clear o2 l2 b2 hnl
    go_wp2_with (first | (refine wpList_store_row rfl 38 _ _ rfl w.heap.size #[.int .i64 1, .string ⟨#[]⟩, .slice A n c, .slice none 0 0, .slice none 0 0] rfl rfl _ _ K2.out sizePt rfl (one5 _ _ _ _ _ _ _ _ _ _ _) ?_))
    refine bodyPost_ret (v := .agg #[.int .i64 1, .string ⟨#[]⟩, .slice A n c, .slice none 0 0, .slice none 0 0]) (results_cell_row rfl _ _ w.heap.size 38 _ _ _ rfl (setRow_heap _ _ _ _ _ _ K2.out) Tryd.underlying38 rfl sizePt) rfl ?_
    obtain ⟨w3, hw3⟩ : ∃ w3, w3 = w2.setRow w.heap.size #[.int .i64 1, .string ⟨#[]⟩, .slice A n c, .slice none 0 0, .slice none 0 0] := ⟨_, rfl⟩
    have o3 : Only (fun i => i = w.heap.size) w2 w3 := by rw [hw3]; exact only_row (S := fun i => i = w.heap.size) (Only.refl _ _) rfl _
    rw [← hw3]
    refine ⟨⟨1, ⟨#[]⟩, opsM s.data.toList 0, A, c⟩, by rw [← HNL.out]; rfl, by rw [HSP.out]; rfl, pcM.lower (base := w1.heap.size) ⟨?_, L2.out, by have := opsM_len s.data.toList; have := HSL.out; show (opsM s.data.toList 0).length ≤ _; omega, Nat.le_refl _⟩ B1.out.size, o3.below B2.out B2.out.size (fun i hi => by rw [hi]; exact Nat.le_refl _)⟩
    show opo w1.heap.size w3 (.slice A (opsM s.data.toList 0).length c) (opsM s.data.toList 0)
    rw [← HNL.out]
    exact O2.out.only o3 (fun i hi e => own_apart O2.out K2.out (by decide) i hi e)

/-- Parts in a row of the call's own. -/
def Pcs (L : List Pc) : List Value := L.flatMap Pc.cells
theorem Pcs_snoc (L : List Pc) (p : Pc) : Pcs (L ++ [p]) = Pcs L ++ p.cells := by simp [Pcs]
theorem Pcs_get : ∀ (L : List Pc) (i : Nat) (p : Pc), L[i]? = some p → (Pcs L)[i * 5]? = some (.int .i64 (p.k : Int)) ∧ (Pcs L)[i * 5 + 1]? = some (.string p.t) ∧ (Pcs L)[i * 5 + 2]? = some (.slice p.A p.os.length p.c) ∧ (Pcs L)[i * 5 + 3]? = some (.slice none 0 0) ∧ (Pcs L)[i * 5 + 4]? = some (.slice none 0 0)
  | [], _, _, h => by simp at h
  | y :: L, 0, p, h => by
    simp at h
    subst h
    exact ⟨rfl, rfl, rfl, rfl, rfl⟩
  | y :: L, i + 1, p, h => by
    rw [List.getElem?_cons_succ] at h
    obtain ⟨h1, h2, h3, h4, h5⟩ := Pcs_get L i p h
    have e : Pcs (y :: L) = y.cells ++ Pcs L := rfl
    have e2 : ∀ j, (Pcs (y :: L))[(i + 1) * 5 + j]? = (Pcs L)[i * 5 + j]? := fun j => by
      rw [e, List.getElem?_append_right (by show 5 ≤ _; omega)]
      congr 1
      show (i + 1) * 5 + j - 5 = i * 5 + j
      omega
    exact ⟨(e2 0).trans h1, (e2 1).trans h2, (e2 2).trans h3, (e2 3).trans h4, (e2 4).trans h5⟩
structure pcs' (base : Nat) (w : World) (v : Value) (L : List Pc) : Prop where
  o : w.ownsRow base 38 5 v L.length (Pcs L)
  m : ∀ p ∈ L, pcM base w p
theorem pcs'.below {base : Nat} {w w' : World} {v : Value} {L : List Pc} (h : pcs' base w v L) (k : Below w.heap.size w w') : pcs' base w' v L :=
  ⟨own_only (S := fun _ => False) h.o (Only.of_below k) (fun _ _ e => e), fun p hp => (h.m p hp).below k⟩
/-- Read as parts that come. -/
theorem pcs'.read {base : Nat} {w : World} {A : Option Addr} {n c : Nat} {L : List Pc} (h : pcs' base w (.slice A n c) L) : ptr w A (L.map Pc.pz) := by
  intro i z hz
  rw [List.getElem?_map] at hz
  obtain ⟨p, hp, rfl⟩ := Option.map_eq_some_iff.1 hz
  have hm := h.m p (List.mem_of_getElem? hp)
  rcases h.o.2 with ⟨e0, h0⟩ | ⟨g, c', cur, e1, hbl, hh, _⟩
  · have := (List.getElem?_eq_some_iff.1 hp).1
    omega
  · injection e1 with e1 _ _
    have e : ∀ j, (⟨g, 0, none⟩ : Addr).add j = ⟨g, j, none⟩ := fun j => by unfold Addr.add; split <;> simp_all
    have cc := World.ownsRow.cells (g := g) h.o (by rw [e1]; rfl)
    obtain ⟨g1, g2, g3, g4, g5⟩ := Pcs_get L i p hp
    have c1 := cc _ _ g1
    have c2 := cc _ _ g2
    have c3 := cc _ _ g3
    have c4 := cc _ _ g4
    have c5 := cc _ _ g5
    rw [e] at c1 c2 c3 c4 c5
    refine ⟨g, 0, e1, (World.ownsRow.lt h.o g (by rw [e1]; rfl)).2, ?_⟩
    rw [Nat.zero_add]
    have hk := hm.k
    refine ⟨⟨by show -9223372036854775808 ≤ (p.k : Int); omega, by show (p.k : Int) ≤ _; omega⟩, c1, c2, ⟨p.A, p.c, ?_, hm.o.read hm.n⟩, ⟨none, 0, c4, row_none _ _ _, by show (0 : Nat) ≤ _; omega⟩, ⟨none, 0, c5, row_none _ _ _, by show (0 : Nat) ≤ _; omega⟩⟩
    rw [c3]
    show some (Value.slice p.A p.os.length p.c) = some (Value.slice p.A (p.os.map Opx.int).length p.c)
    rw [List.length_map]
theorem infoPt : (Tryd.prog.info? 38).map (fun i => (i.zero, i.size, i.bytes)) = some (some (.agg #[.int .i64 0, .string ⟨#[]⟩, .slice none 0 0, .slice none 0 0, .slice none 0 0]), 5, 96) := by kernel_rfl
theorem pt_cells (w : World) (k : Int) (t : ByteArray) (A : Option Addr) (n c : Nat) (e : TypeId) : ∀ (j : Nat) (u : Value), ([.int .i64 k, .string t, .slice A n c, .slice none 0 0, .slice none 0 0] : List Value)[j]? = some u → (w.alloc (.cells #[.int .i64 k, .string t, .slice A n c, .slice none 0 0, .slice none 0 0] e)).cell? ((⟨w.heap.size, 0, none⟩ : Addr).add j) = some u := by
  intro j u hu
  rw [Go.WideShapes.add_plain, Nat.zero_add, Blk.cell (Blk.fresh w e _) j, ← hu]
  simp
theorem pt_one (k : Int) (t : ByteArray) (A : Option Addr) (n c : Nat) : ∀ u ∈ ([.int .i64 k, .string t, .slice A n c, .slice none 0 0, .slice none 0 0] : List Value), u.oneCell' = true := by
  intro u hu
  simp at hu
  rcases hu with rfl | rfl | rfl | rfl <;> rfl
/-- The parts of a text. -/
noncomputable def partsOf (l : List UInt8) : Nat → List (Nat × Nat) → List Sp
  | _, [] => []
  | i, x :: r => sp i ((l.drop x.1).take x.2) :: partsOf l (i + 1) r
/-- How many bytes a piece has. -/
def pn (z : Int) : Nat := if z < 1 ∨ 65535 < z then 65535 else z.toNat
theorem pn_le (z : Int) : 1 ≤ pn z ∧ pn z ≤ 65535 := by unfold pn; split <;> omega
theorem Sl_get {g : Nat} {L : List (Nat × Nat)} {j : Nat} {x : Nat × Nat} (h : L[j]? = some x) : (Sl g L)[j]? = some (.slice (some ⟨g, x.1, none⟩) x.2 x.2) := by unfold Sl; rw [List.getElem?_map, h]; rfl
theorem piece_string {w : World} {g N cap o m : Nat} {l : List UInt8} (h : rbuf w (.slice (some ⟨g, 0, none⟩) N cap) l) (hm : o + m ≤ l.length) :
    (convert 50 9 (.slice (some ⟨g, o, none⟩) m m)).run Tryd.prog w = .ok (.string ⟨((l.drop o).take m).toArray⟩) w := by
  have hl : ((l.drop o).take m).length = m := by rw [List.length_take, List.length_drop]; omega
  obtain ⟨b', cap', e, _, _, _, hc⟩ := h.block
  obtain rfl : g = b' := congrArg Addr.block (Option.some.inj (Value.slice.inj e).1)
  have h2 := run_convert_bytes_back (P := Tryd.prog) w 50 9 5 ⟨g, o, none⟩ m ((l.drop o).take m) Tryd.underlying50 Tryd.underlying5 Tryd.underlying9 (fun j hj => by
    have e3 : ((⟨g, o, none⟩ : Addr).add j) = ⟨g, o + j, none⟩ := by simp [Addr.add]
    rw [hl] at hj
    have hlt : o + j < l.length := by omega
    rw [e3, hc (o + j) hlt, List.getElem?_eq_getElem hlt, List.getElem_take, List.getElem_drop]
    rfl)
  rw [hl] at h2
  exact h2
theorem own_two {w : World} {b1 b2 s1 s2 n1 n2 : Nat} {e1 e2 : TypeId} {v1 v2 : Value} {x1 x2 : List Value} (h1 : w.ownsRow b1 e1 s1 v1 n1 x1) (h2 : w.ownsRow b2 e2 s2 v2 n2 x2) (hne : e1 ≠ e2) (i : Nat) (hi : v1.ownBlock = some i) (hi2 : v2.ownBlock = some i) : False := by
  rcases h2.2 with ⟨rfl, _⟩ | ⟨g', cap, cur, rfl, _, hh, _⟩
  · simp [Value.ownBlock] at hi2
  · obtain rfl : g' = i := by simpa [Value.ownBlock] using hi2
    exact own_apart (t := e2) (cs := cur) h1 hh hne g' hi rfl
set_option maxHeartbeats 4000000 in
set_option maxRecDepth 100000 in
theorem Split_any {s : ByteArray} {z : Int} (hs : s.size ≤ 1000000) (w : World) :
    Calls Tryd.prog 11 #[.string s, .int .i64 z] w fun e w' => ∃ A c L, e = .returned (.slice A L.length c) ∧ L.map Pc.sp = partsOf s.data.toList 0 (pcs (pn z) s.size) ∧ pcs' w.heap.size w' (.slice A L.length c) L ∧ Below w.heap.size w w' := by
  obtain ⟨l, hl⟩ : ∃ l, l = s.data.toList := ⟨_, rfl⟩
  have hsl : l.length = s.size := by rw [hl]; exact sz s
  rw [← hl]
  have HL := Lib.hid hl
  have HSL := Lib.hid hsl
  obtain ⟨i0, hi, hz0, hz1, hz2⟩ := info_parts infoPt
  have hcv := run_bytes_of_string (P := Tryd.prog) w 9 50 5 s Tryd.underlying9 Tryd.underlying50 Tryd.underlying5
  have hnew := rbuf_new w s
  have hge := grownCap_ge w s.size 0 5
  rw [← hl] at hnew
  generalize grownCap w s.size 0 5 = cap at hcv hnew hge
  obtain ⟨w3, hw3⟩ : ∃ w3, w3 = w.drew.alloc (.cells (bytesRow s cap) 5 ((bytesRow s cap).size, (bytesRow s cap).size + 1)) := ⟨_, rfl⟩
  rw [← hw3] at hcv hnew
  have B3 : Hid (Below w.heap.size w w3) := Lib.hid (by rw [hw3]; exact ((Below.refl _ w).drew).alloc (Nat.le_refl _) _)
  have HNW := Lib.hid hnew
  obtain ⟨g, hg⟩ : ∃ g, g = w.heap.size := ⟨_, rfl⟩
  rw [← hg] at hcv HNW
  obtain ⟨n, hn⟩ : ∃ n, n = pn z := ⟨_, rfl⟩
  have hnle := pn_le z
  rw [← hn] at hnle ⊢
  obtain ⟨Q, hQ⟩ : ∃ Q, Q = pcs n s.size := ⟨_, rfl⟩
  rw [← hQ]
  have HQ := Lib.hid hQ
  have HPC := Lib.hid (pieces_any (w := w3) (g := g) (cap := cap) (n := n) (N := s.size) (by omega) hs hnle.1 hnle.2)
  rw [← hQ] at HPC
  have HQI : Hid (∀ x ∈ Q, x.1 + x.2 ≤ l.length) := Lib.hid (fun x hx => by rw [hQ] at hx; have := (pcsF_in n s.size 0 s.size x hx).2; rw [hsl]; omega)
  have HQN : Hid (Q.length ≤ 1000001) := Lib.hid (by rw [hQ]; have := pcsF_len n s.size 0 s.size; unfold pcs; omega)
  have HG := Lib.hid hg
  clear hl hsl hnew hge hQ hw3 hg
  obtain ⟨y, hy⟩ : ∃ y : Int, y = (n : Int) := ⟨_, rfl⟩
  rw [← hy] at HPC
  have hy65 : z < 1 ∨ 65535 < z → y = 65535 := fun h => by rw [hy, hn]; unfold pn; rw [if_pos h]; rfl
  have hyz : ¬ z < 1 → ¬ 65535 < z → y = z := fun h1 h2 => by rw [hy, hn]; unfold pn; rw [if_neg (by omega)]; omega
  have HQP : Hid (0 < Q.length) := Lib.hid (by rw [HQ.out]; exact pcsF_pos _ _ _ _)
  clear hn hnle hy HQ
  rcases (show z < 1 ∨ (¬ z < 1 ∧ 65535 < z) ∨ (¬ z < 1 ∧ ¬ 65535 < z) by omega) with h | ⟨h, h'⟩ | ⟨h, h'⟩
  · have hy := hy65 (.inl h)
    subst hy
    clear hy65 hyz
    go_enter Tryd.func11, Tryd.ntmps11
    go_wp2_with fail
    refine HPC.out.mono ?_
    rintro e w4 ⟨A1, k1, c1, rfl, hk1, ho1, hb1⟩
    have HK1 := Lib.hid hk1
    have HR1 := Lib.hid ho1
    have HB1 := Lib.hid (grows B3.out hb1)
    have HNW1 := Lib.hid (HNW.out.below hb1)
    obtain ⟨b1, hb1A⟩ : ∃ b1, A1 = some ⟨b1, 0, none⟩ := by
      rcases ho1.2 with ⟨_, h0⟩ | ⟨g', cap', cur, e1, _⟩
      · have := HQP.out; omega
      · exact ⟨g', by injection e1⟩
    subst hb1A
    clear hk1 ho1 hb1 hcv
    go_wp2
    go_loopw [5, 19] (fun s5 s19 wr => ∃ (j k c : Nat) (A : Option Addr) (L : List Pc), s5 = .slice A k c ∧ s19 = .int .i64 (j : Int) ∧ j ≤ k1 ∧ Hid (k = L.length ∧ k = j) ∧ Hid (pcs' w.heap.size wr (.slice A k c) L) ∧ Hid (partsOf l 0 Q = L.map Pc.sp ++ partsOf l j (Q.drop j)) ∧ Hid (wr.ownsRow w3.heap.size 50 1 (.slice (some ⟨b1, 0, none⟩) k1 c1) k1 (Sl g Q)) ∧ Hid (rbuf wr (.slice (some ⟨g, 0, none⟩) s.size cap) l) ∧ Hid (Below w.heap.size w wr)) (fun _ s19 _ => k1 - (intOf s19).toNat)
    case atStart => exact ⟨0, 0, 0, none, [], rfl, rfl, Nat.zero_le _, Lib.hid ⟨rfl, rfl⟩, Lib.hid ⟨World.ownsRow_nil _ _ _ _, fun p h => by cases h⟩, Lib.hid rfl, HR1, HNW1, HB1⟩
    case round =>
      obtain ⟨j, k, c, A, L, rfl, rfl, hj, HKJ, HPS, HPO, HRW, HBF, HB⟩ := hrel
      by_cases hjk : j < k1
      · have hjk' : (j : Int) < (k1 : Int) := by omega
        have hj0 : (0 : Int) ≤ (j : Int) := by omega
        have hk1b : (k1 : Int) ≤ 1000001 := by have h1 := HK1.out; have h2 := HQN.out; omega
        have hjQ : j < Q.length := by have := HK1.out; omega
        obtain ⟨x, hx⟩ : ∃ x, Q[j]? = some x := ⟨_, List.getElem?_eq_getElem hjQ⟩
        have hxl := HQI.out x (List.mem_of_getElem? hx)
        have hcell : wr.cell? ⟨b1, j, none⟩ = some (.slice (some ⟨g, x.1, none⟩) x.2 x.2) := by
          have h := World.ownsRow.cells (g := b1) HRW.out rfl j _ (Sl_get hx)
          have e : (⟨b1, 0, none⟩ : Addr).add j = ⟨b1, j, none⟩ := by unfold Addr.add; split <;> simp_all
          rw [e] at h; exact h
        have hcs := piece_string HBF.out hxl
        obtain ⟨ps, hps⟩ : ∃ ps : ByteArray, ps = ⟨((l.drop x.1).take x.2).toArray⟩ := ⟨_, rfl⟩
        have hpsz : ps.size ≤ 1000000 := by
          rw [hps]; show Array.size _ ≤ _
          rw [List.size_toArray, List.length_take, List.length_drop]
          have := HSL.out; omega
        have HPD : Hid (ps.data.toList = (l.drop x.1).take x.2) := Lib.hid (by rw [hps])
        rw [← hps] at hcs
        have HPT := Lib.hid (partOf_any (i := j) (s := ps) (by have := HQN.out; omega) hpsz wr)
        have HDR : Hid (Q.drop j = x :: Q.drop (j + 1)) := Lib.hid (by
          obtain ⟨h1, h2⟩ := List.getElem?_eq_some_iff.1 hx
          rw [List.drop_eq_getElem_cons h1, h2])
        have HJK := Lib.hid hjk
        obtain ⟨xo, hxo⟩ : ∃ xo, xo = x.1 := ⟨_, rfl⟩
        obtain ⟨xn, hxn⟩ : ∃ xn, xn = x.2 := ⟨_, rfl⟩
        rw [← hxo, ← hxn] at hcell hcs
        have HXO : Hid (xo = x.1 ∧ xn = x.2) := Lib.hid ⟨hxo, hxn⟩
        clear hx hxl hps hpsz hjk hxo hxn hjQ
        go_wp2_with fail
        refine HPT.out.mono ?_
        rintro e w5 ⟨p, rfl, hsp, hpm, hb5⟩
        have HSP : Hid (p.sp = sp j ((l.drop x.1).take x.2)) := Lib.hid (by rw [hsp, HPD.out])
        have HPM := Lib.hid (hpm.lower HB.out.size)
        have HB5 := Lib.hid (grows HB.out hb5)
        have HPS5 := Lib.hid (HPS.out.below hb5)
        have HRW5 : Hid (w5.ownsRow w3.heap.size 50 1 (.slice (some ⟨b1, 0, none⟩) k1 c1) k1 (Sl g Q)) := Lib.hid (own_only (S := fun _ => False) HRW.out (Only.of_below hb5) (fun _ _ e => e))
        have HBF5 := Lib.hid (HBF.out.below hb5)
        clear hsp hpm hb5 hcs hcell HPT
        obtain ⟨pk, hpk⟩ : ∃ pk : Int, pk = (p.k : Int) := ⟨_, rfl⟩
        obtain ⟨pt, hpt⟩ : ∃ pt, pt = p.t := ⟨_, rfl⟩
        obtain ⟨pA, hpA⟩ : ∃ pA, pA = p.A := ⟨_, rfl⟩
        obtain ⟨pm, hpm⟩ : ∃ pm, pm = p.os.length := ⟨_, rfl⟩
        obtain ⟨pc, hpc⟩ : ∃ pc, pc = p.c := ⟨_, rfl⟩
        have HCE : Hid (p.cells = [.int .i64 pk, .string pt, .slice pA pm pc, .slice none 0 0, .slice none 0 0]) := Lib.hid (by rw [hpk, hpt, hpA, hpm, hpc]; rfl)
        rw [← hpk, ← hpt, ← hpA, ← hpm, ← hpc]
        clear hpk hpt hpA hpm hpc
        obtain ⟨w6, hw6⟩ : ∃ w6, w6 = w5.alloc (.cells #[.int .i64 pk, .string pt, .slice pA pm pc, .slice none 0 0, .slice none 0 0] 38) := ⟨_, rfl⟩
        have B6 : Hid (Below w5.heap.size w5 w6) := Lib.hid (by rw [hw6]; exact below_alloc _ _)
        have HNC : Hid (∀ (j : Nat) (u : Value), ([.int .i64 pk, .string pt, .slice pA pm pc, .slice none 0 0, .slice none 0 0] : List Value)[j]? = some u → w6.cell? ((⟨w5.heap.size, 0, none⟩ : Addr).add j) = some u) := Lib.hid (by rw [hw6]; exact pt_cells _ _ _ _ _ _ _)
        have BB6 := Lib.hid (grows HB5.out B6.out)
        have HPS6 := Lib.hid (HPS5.out.below B6.out)
        have HPM6 := Lib.hid ((HPM.out.below B6.out))
        have HRW6 : Hid (w6.ownsRow w3.heap.size 50 1 (.slice (some ⟨b1, 0, none⟩) k1 c1) k1 (Sl g Q)) := Lib.hid (own_only (S := fun _ => False) HRW5.out (Only.of_below B6.out) (fun _ _ e => e))
        have HBF6 := Lib.hid (HBF5.out.below B6.out)
        have HOW6 : Hid (w6.ownsRow w.heap.size 38 5 (.slice A k c) k (Pcs L)) := Lib.hid (by have h := HPS6.out.o; rw [← HKJ.out.1] at h; exact h)
        have HK9 : Hid (k + 1 ≤ 1000001) := Lib.hid (by have h1 := HKJ.out.2; have h2 := HK1.out; have h3 := HQN.out; have h4 := HJK.out; omega)
        have H5S := Lib.hid B6.out.size
        go_wp2_with (at_builtin; rw [← hw6]; refine wpList_append_own_at _ rfl _ _ 29 rfl w.heap.size 38 i0 (.agg #[.int .i64 0, .string ⟨#[]⟩, .slice none 0 0, .slice none 0 0, .slice none 0 0]) 5 96 Tryd.underlying29 hi hz0 hz1 hz2 rfl (by decide) _ k (Pcs L) rfl HOW6.out ⟨w5.heap.size, 0, none⟩ 1 1 [.int .i64 pk, .string pt, .slice pA pm pc, .slice none 0 0, .slice none 0 0] rfl rfl HNC.out (pt_one _ _ _ _ _) ?a3 ?a4 ?a5 ?_)
        case a3 => unfold maxLen; have := HK9.out; omega
        case a4 => have := HK9.out; omega
        case a5 => first | exact BB6.out.size | (have h1 := HB5.out.size; have h2 := BB6.out.size; omega)
        intro v3 w7 hown hgrow _ _
        have O7 : Hid (Only (fun i => (Value.slice A k c).ownBlock = some i) w6 w7) := Lib.hid (by first | exact (Only.refl _ w6).grown hgrow (fun i hi _ => hi) | (rw [← hw6] at hgrow; exact (Only.refl _ w6).grown hgrow (fun i hi _ => hi)))
        have B7 : Hid (Below w.heap.size w w7) := Lib.hid (O7.out.below BB6.out BB6.out.size (fun i hi => (HOW6.out.lt i hi).1))
        obtain ⟨A7, c7, hv7⟩ : ∃ A7 c7, v3 = .slice A7 (k + 1) c7 := by
          rcases hown.2 with ⟨rfl, h0⟩ | ⟨g, cap, _, rfl, _⟩
          · omega
          · exact ⟨_, cap, rfl⟩
        subst hv7
        obtain ⟨k', hk'⟩ : ∃ k', k' = k + 1 := ⟨_, rfl⟩
        have HK7 : Hid (k' = (L ++ [p]).length ∧ k' = j + 1) := Lib.hid ⟨by rw [hk', List.length_append, HKJ.out.1]; rfl, by rw [hk', HKJ.out.2]⟩
        have PS7 : Hid (pcs' w.heap.size w7 (.slice A7 k' c7) (L ++ [p])) := Lib.hid ⟨by rw [Pcs_snoc, HCE.out, ← HK7.out.1, hk']; exact hown, fun q hq => by
          have hmm : ∀ q, pcM w.heap.size w6 q → pcM w.heap.size w7 q := fun q h => ⟨h.o.only O7.out (fun i hi e => own_two h.o HOW6.out (by decide) i hi e), h.n, h.l, h.k⟩
          rcases List.mem_append.1 hq with h | h
          · exact hmm q (HPS6.out.m q h)
          · obtain rfl : q = p := by simpa using h
            exact hmm q HPM6.out⟩
        have HRW7 : Hid (w7.ownsRow w3.heap.size 50 1 (.slice (some ⟨b1, 0, none⟩) k1 c1) k1 (Sl g Q)) := Lib.hid (own_only HRW6.out O7.out (fun i hi e => own_two HRW6.out HOW6.out (by decide) i hi e))
        have HBF7 : Hid (rbuf w7 (.slice (some ⟨g, 0, none⟩) s.size cap) l) := Lib.hid (HBF6.out.only O7.out (fun i hi e => by
          rcases HOW6.out.2 with ⟨e0, _⟩ | ⟨g9, cap9, cur9, e9, _, hh9, _⟩
          · rw [e0] at e; cases e
          · have h9 : g9 = i := by rw [e9] at e; simpa [Value.ownBlock] using e
            subst h9
            exact HBF6.out.apart (t := 38) (cs := cur9) hh9 (by decide) _ hi rfl))
        have HPO7 : Hid (partsOf l 0 Q = (L ++ [p]).map Pc.sp ++ partsOf l (j + 1) (Q.drop (j + 1))) := Lib.hid (by
          rw [HPO.out, HDR.out, List.map_append, List.append_assoc]
          show _ ++ (sp j _ :: partsOf l (j + 1) _) = _
          rw [← HSP.out]; rfl)
        rw [← hk']
        clear hown hgrow hk' hw6
        go_wp2
        go_roundw
        case rel => exact ⟨j + 1, k', c7, A7, L ++ [p], rfl, by first | rfl | go_num, by have := HJK.out; omega, HK7, PS7, HPO7, HRW7, HBF7, B7⟩
        case measure => have h1 := HJK.out; have h2 := HK1.out; have h3 := HQN.out; simp [intOf]; omega
      · have hjk' : ¬ (j : Int) < (k1 : Int) := by omega
        have HE : Hid (L.map Pc.sp = partsOf l 0 Q) := Lib.hid (by
          rw [HPO.out, List.drop_eq_nil_of_le (by have := HK1.out; omega)]
          show _ = _ ++ []
          rw [List.append_nil])
        clear hjk
        go_wp2
        go_ret
        exact ⟨A, c, L, by rw [HKJ.out.1]; rfl, HE.out, by have h := HPS.out; rw [HKJ.out.1] at h; exact h, HB.out⟩
  · have hy := hy65 (.inr h')
    subst hy
    clear hy65 hyz
    go_enter Tryd.func11, Tryd.ntmps11
    go_wp2_with fail
    refine HPC.out.mono ?_
    rintro e w4 ⟨A1, k1, c1, rfl, hk1, ho1, hb1⟩
    have HK1 := Lib.hid hk1
    have HR1 := Lib.hid ho1
    have HB1 := Lib.hid (grows B3.out hb1)
    have HNW1 := Lib.hid (HNW.out.below hb1)
    obtain ⟨b1, hb1A⟩ : ∃ b1, A1 = some ⟨b1, 0, none⟩ := by
      rcases ho1.2 with ⟨_, h0⟩ | ⟨g', cap', cur, e1, _⟩
      · have := HQP.out; omega
      · exact ⟨g', by injection e1⟩
    subst hb1A
    clear hk1 ho1 hb1 hcv
    go_wp2
    go_loopw [5, 19] (fun s5 s19 wr => ∃ (j k c : Nat) (A : Option Addr) (L : List Pc), s5 = .slice A k c ∧ s19 = .int .i64 (j : Int) ∧ j ≤ k1 ∧ Hid (k = L.length ∧ k = j) ∧ Hid (pcs' w.heap.size wr (.slice A k c) L) ∧ Hid (partsOf l 0 Q = L.map Pc.sp ++ partsOf l j (Q.drop j)) ∧ Hid (wr.ownsRow w3.heap.size 50 1 (.slice (some ⟨b1, 0, none⟩) k1 c1) k1 (Sl g Q)) ∧ Hid (rbuf wr (.slice (some ⟨g, 0, none⟩) s.size cap) l) ∧ Hid (Below w.heap.size w wr)) (fun _ s19 _ => k1 - (intOf s19).toNat)
    case atStart => exact ⟨0, 0, 0, none, [], rfl, rfl, Nat.zero_le _, Lib.hid ⟨rfl, rfl⟩, Lib.hid ⟨World.ownsRow_nil _ _ _ _, fun p h => by cases h⟩, Lib.hid rfl, HR1, HNW1, HB1⟩
    case round =>
      obtain ⟨j, k, c, A, L, rfl, rfl, hj, HKJ, HPS, HPO, HRW, HBF, HB⟩ := hrel
      by_cases hjk : j < k1
      · have hjk' : (j : Int) < (k1 : Int) := by omega
        have hj0 : (0 : Int) ≤ (j : Int) := by omega
        have hk1b : (k1 : Int) ≤ 1000001 := by have h1 := HK1.out; have h2 := HQN.out; omega
        have hjQ : j < Q.length := by have := HK1.out; omega
        obtain ⟨x, hx⟩ : ∃ x, Q[j]? = some x := ⟨_, List.getElem?_eq_getElem hjQ⟩
        have hxl := HQI.out x (List.mem_of_getElem? hx)
        have hcell : wr.cell? ⟨b1, j, none⟩ = some (.slice (some ⟨g, x.1, none⟩) x.2 x.2) := by
          have h := World.ownsRow.cells (g := b1) HRW.out rfl j _ (Sl_get hx)
          have e : (⟨b1, 0, none⟩ : Addr).add j = ⟨b1, j, none⟩ := by unfold Addr.add; split <;> simp_all
          rw [e] at h; exact h
        have hcs := piece_string HBF.out hxl
        obtain ⟨ps, hps⟩ : ∃ ps : ByteArray, ps = ⟨((l.drop x.1).take x.2).toArray⟩ := ⟨_, rfl⟩
        have hpsz : ps.size ≤ 1000000 := by
          rw [hps]; show Array.size _ ≤ _
          rw [List.size_toArray, List.length_take, List.length_drop]
          have := HSL.out; omega
        have HPD : Hid (ps.data.toList = (l.drop x.1).take x.2) := Lib.hid (by rw [hps])
        rw [← hps] at hcs
        have HPT := Lib.hid (partOf_any (i := j) (s := ps) (by have := HQN.out; omega) hpsz wr)
        have HDR : Hid (Q.drop j = x :: Q.drop (j + 1)) := Lib.hid (by
          obtain ⟨h1, h2⟩ := List.getElem?_eq_some_iff.1 hx
          rw [List.drop_eq_getElem_cons h1, h2])
        have HJK := Lib.hid hjk
        obtain ⟨xo, hxo⟩ : ∃ xo, xo = x.1 := ⟨_, rfl⟩
        obtain ⟨xn, hxn⟩ : ∃ xn, xn = x.2 := ⟨_, rfl⟩
        rw [← hxo, ← hxn] at hcell hcs
        have HXO : Hid (xo = x.1 ∧ xn = x.2) := Lib.hid ⟨hxo, hxn⟩
        clear hx hxl hps hpsz hjk hxo hxn hjQ
        go_wp2_with fail
        refine HPT.out.mono ?_
        rintro e w5 ⟨p, rfl, hsp, hpm, hb5⟩
        have HSP : Hid (p.sp = sp j ((l.drop x.1).take x.2)) := Lib.hid (by rw [hsp, HPD.out])
        have HPM := Lib.hid (hpm.lower HB.out.size)
        have HB5 := Lib.hid (grows HB.out hb5)
        have HPS5 := Lib.hid (HPS.out.below hb5)
        have HRW5 : Hid (w5.ownsRow w3.heap.size 50 1 (.slice (some ⟨b1, 0, none⟩) k1 c1) k1 (Sl g Q)) := Lib.hid (own_only (S := fun _ => False) HRW.out (Only.of_below hb5) (fun _ _ e => e))
        have HBF5 := Lib.hid (HBF.out.below hb5)
        clear hsp hpm hb5 hcs hcell HPT
        obtain ⟨pk, hpk⟩ : ∃ pk : Int, pk = (p.k : Int) := ⟨_, rfl⟩
        obtain ⟨pt, hpt⟩ : ∃ pt, pt = p.t := ⟨_, rfl⟩
        obtain ⟨pA, hpA⟩ : ∃ pA, pA = p.A := ⟨_, rfl⟩
        obtain ⟨pm, hpm⟩ : ∃ pm, pm = p.os.length := ⟨_, rfl⟩
        obtain ⟨pc, hpc⟩ : ∃ pc, pc = p.c := ⟨_, rfl⟩
        have HCE : Hid (p.cells = [.int .i64 pk, .string pt, .slice pA pm pc, .slice none 0 0, .slice none 0 0]) := Lib.hid (by rw [hpk, hpt, hpA, hpm, hpc]; rfl)
        rw [← hpk, ← hpt, ← hpA, ← hpm, ← hpc]
        clear hpk hpt hpA hpm hpc
        obtain ⟨w6, hw6⟩ : ∃ w6, w6 = w5.alloc (.cells #[.int .i64 pk, .string pt, .slice pA pm pc, .slice none 0 0, .slice none 0 0] 38) := ⟨_, rfl⟩
        have B6 : Hid (Below w5.heap.size w5 w6) := Lib.hid (by rw [hw6]; exact below_alloc _ _)
        have HNC : Hid (∀ (j : Nat) (u : Value), ([.int .i64 pk, .string pt, .slice pA pm pc, .slice none 0 0, .slice none 0 0] : List Value)[j]? = some u → w6.cell? ((⟨w5.heap.size, 0, none⟩ : Addr).add j) = some u) := Lib.hid (by rw [hw6]; exact pt_cells _ _ _ _ _ _ _)
        have BB6 := Lib.hid (grows HB5.out B6.out)
        have HPS6 := Lib.hid (HPS5.out.below B6.out)
        have HPM6 := Lib.hid ((HPM.out.below B6.out))
        have HRW6 : Hid (w6.ownsRow w3.heap.size 50 1 (.slice (some ⟨b1, 0, none⟩) k1 c1) k1 (Sl g Q)) := Lib.hid (own_only (S := fun _ => False) HRW5.out (Only.of_below B6.out) (fun _ _ e => e))
        have HBF6 := Lib.hid (HBF5.out.below B6.out)
        have HOW6 : Hid (w6.ownsRow w.heap.size 38 5 (.slice A k c) k (Pcs L)) := Lib.hid (by have h := HPS6.out.o; rw [← HKJ.out.1] at h; exact h)
        have HK9 : Hid (k + 1 ≤ 1000001) := Lib.hid (by have h1 := HKJ.out.2; have h2 := HK1.out; have h3 := HQN.out; have h4 := HJK.out; omega)
        have H5S := Lib.hid B6.out.size
        go_wp2_with (at_builtin; rw [← hw6]; refine wpList_append_own_at _ rfl _ _ 29 rfl w.heap.size 38 i0 (.agg #[.int .i64 0, .string ⟨#[]⟩, .slice none 0 0, .slice none 0 0, .slice none 0 0]) 5 96 Tryd.underlying29 hi hz0 hz1 hz2 rfl (by decide) _ k (Pcs L) rfl HOW6.out ⟨w5.heap.size, 0, none⟩ 1 1 [.int .i64 pk, .string pt, .slice pA pm pc, .slice none 0 0, .slice none 0 0] rfl rfl HNC.out (pt_one _ _ _ _ _) ?a3 ?a4 ?a5 ?_)
        case a3 => unfold maxLen; have := HK9.out; omega
        case a4 => have := HK9.out; omega
        case a5 => first | exact BB6.out.size | (have h1 := HB5.out.size; have h2 := BB6.out.size; omega)
        intro v3 w7 hown hgrow _ _
        have O7 : Hid (Only (fun i => (Value.slice A k c).ownBlock = some i) w6 w7) := Lib.hid (by first | exact (Only.refl _ w6).grown hgrow (fun i hi _ => hi) | (rw [← hw6] at hgrow; exact (Only.refl _ w6).grown hgrow (fun i hi _ => hi)))
        have B7 : Hid (Below w.heap.size w w7) := Lib.hid (O7.out.below BB6.out BB6.out.size (fun i hi => (HOW6.out.lt i hi).1))
        obtain ⟨A7, c7, hv7⟩ : ∃ A7 c7, v3 = .slice A7 (k + 1) c7 := by
          rcases hown.2 with ⟨rfl, h0⟩ | ⟨g, cap, _, rfl, _⟩
          · omega
          · exact ⟨_, cap, rfl⟩
        subst hv7
        obtain ⟨k', hk'⟩ : ∃ k', k' = k + 1 := ⟨_, rfl⟩
        have HK7 : Hid (k' = (L ++ [p]).length ∧ k' = j + 1) := Lib.hid ⟨by rw [hk', List.length_append, HKJ.out.1]; rfl, by rw [hk', HKJ.out.2]⟩
        have PS7 : Hid (pcs' w.heap.size w7 (.slice A7 k' c7) (L ++ [p])) := Lib.hid ⟨by rw [Pcs_snoc, HCE.out, ← HK7.out.1, hk']; exact hown, fun q hq => by
          have hmm : ∀ q, pcM w.heap.size w6 q → pcM w.heap.size w7 q := fun q h => ⟨h.o.only O7.out (fun i hi e => own_two h.o HOW6.out (by decide) i hi e), h.n, h.l, h.k⟩
          rcases List.mem_append.1 hq with h | h
          · exact hmm q (HPS6.out.m q h)
          · obtain rfl : q = p := by simpa using h
            exact hmm q HPM6.out⟩
        have HRW7 : Hid (w7.ownsRow w3.heap.size 50 1 (.slice (some ⟨b1, 0, none⟩) k1 c1) k1 (Sl g Q)) := Lib.hid (own_only HRW6.out O7.out (fun i hi e => own_two HRW6.out HOW6.out (by decide) i hi e))
        have HBF7 : Hid (rbuf w7 (.slice (some ⟨g, 0, none⟩) s.size cap) l) := Lib.hid (HBF6.out.only O7.out (fun i hi e => by
          rcases HOW6.out.2 with ⟨e0, _⟩ | ⟨g9, cap9, cur9, e9, _, hh9, _⟩
          · rw [e0] at e; cases e
          · have h9 : g9 = i := by rw [e9] at e; simpa [Value.ownBlock] using e
            subst h9
            exact HBF6.out.apart (t := 38) (cs := cur9) hh9 (by decide) _ hi rfl))
        have HPO7 : Hid (partsOf l 0 Q = (L ++ [p]).map Pc.sp ++ partsOf l (j + 1) (Q.drop (j + 1))) := Lib.hid (by
          rw [HPO.out, HDR.out, List.map_append, List.append_assoc]
          show _ ++ (sp j _ :: partsOf l (j + 1) _) = _
          rw [← HSP.out]; rfl)
        rw [← hk']
        clear hown hgrow hk' hw6
        go_wp2
        go_roundw
        case rel => exact ⟨j + 1, k', c7, A7, L ++ [p], rfl, by first | rfl | go_num, by have := HJK.out; omega, HK7, PS7, HPO7, HRW7, HBF7, B7⟩
        case measure => have h1 := HJK.out; have h2 := HK1.out; have h3 := HQN.out; simp [intOf]; omega
      · have hjk' : ¬ (j : Int) < (k1 : Int) := by omega
        have HE : Hid (L.map Pc.sp = partsOf l 0 Q) := Lib.hid (by
          rw [HPO.out, List.drop_eq_nil_of_le (by have := HK1.out; omega)]
          show _ = _ ++ []
          rw [List.append_nil])
        clear hjk
        go_wp2
        go_ret
        exact ⟨A, c, L, by rw [HKJ.out.1]; rfl, HE.out, by have h := HPS.out; rw [HKJ.out.1] at h; exact h, HB.out⟩
  · have hy := hyz h h'
    subst hy
    clear hy65 hyz
    go_enter Tryd.func11, Tryd.ntmps11
    go_wp2_with fail
    refine HPC.out.mono ?_
    rintro e w4 ⟨A1, k1, c1, rfl, hk1, ho1, hb1⟩
    have HK1 := Lib.hid hk1
    have HR1 := Lib.hid ho1
    have HB1 := Lib.hid (grows B3.out hb1)
    have HNW1 := Lib.hid (HNW.out.below hb1)
    obtain ⟨b1, hb1A⟩ : ∃ b1, A1 = some ⟨b1, 0, none⟩ := by
      rcases ho1.2 with ⟨_, h0⟩ | ⟨g', cap', cur, e1, _⟩
      · have := HQP.out; omega
      · exact ⟨g', by injection e1⟩
    subst hb1A
    clear hk1 ho1 hb1 hcv
    go_wp2
    go_loopw [5, 19] (fun s5 s19 wr => ∃ (j k c : Nat) (A : Option Addr) (L : List Pc), s5 = .slice A k c ∧ s19 = .int .i64 (j : Int) ∧ j ≤ k1 ∧ Hid (k = L.length ∧ k = j) ∧ Hid (pcs' w.heap.size wr (.slice A k c) L) ∧ Hid (partsOf l 0 Q = L.map Pc.sp ++ partsOf l j (Q.drop j)) ∧ Hid (wr.ownsRow w3.heap.size 50 1 (.slice (some ⟨b1, 0, none⟩) k1 c1) k1 (Sl g Q)) ∧ Hid (rbuf wr (.slice (some ⟨g, 0, none⟩) s.size cap) l) ∧ Hid (Below w.heap.size w wr)) (fun _ s19 _ => k1 - (intOf s19).toNat)
    case atStart => exact ⟨0, 0, 0, none, [], rfl, rfl, Nat.zero_le _, Lib.hid ⟨rfl, rfl⟩, Lib.hid ⟨World.ownsRow_nil _ _ _ _, fun p h => by cases h⟩, Lib.hid rfl, HR1, HNW1, HB1⟩
    case round =>
      obtain ⟨j, k, c, A, L, rfl, rfl, hj, HKJ, HPS, HPO, HRW, HBF, HB⟩ := hrel
      by_cases hjk : j < k1
      · have hjk' : (j : Int) < (k1 : Int) := by omega
        have hj0 : (0 : Int) ≤ (j : Int) := by omega
        have hk1b : (k1 : Int) ≤ 1000001 := by have h1 := HK1.out; have h2 := HQN.out; omega
        have hjQ : j < Q.length := by have := HK1.out; omega
        obtain ⟨x, hx⟩ : ∃ x, Q[j]? = some x := ⟨_, List.getElem?_eq_getElem hjQ⟩
        have hxl := HQI.out x (List.mem_of_getElem? hx)
        have hcell : wr.cell? ⟨b1, j, none⟩ = some (.slice (some ⟨g, x.1, none⟩) x.2 x.2) := by
          have h := World.ownsRow.cells (g := b1) HRW.out rfl j _ (Sl_get hx)
          have e : (⟨b1, 0, none⟩ : Addr).add j = ⟨b1, j, none⟩ := by unfold Addr.add; split <;> simp_all
          rw [e] at h; exact h
        have hcs := piece_string HBF.out hxl
        obtain ⟨ps, hps⟩ : ∃ ps : ByteArray, ps = ⟨((l.drop x.1).take x.2).toArray⟩ := ⟨_, rfl⟩
        have hpsz : ps.size ≤ 1000000 := by
          rw [hps]; show Array.size _ ≤ _
          rw [List.size_toArray, List.length_take, List.length_drop]
          have := HSL.out; omega
        have HPD : Hid (ps.data.toList = (l.drop x.1).take x.2) := Lib.hid (by rw [hps])
        rw [← hps] at hcs
        have HPT := Lib.hid (partOf_any (i := j) (s := ps) (by have := HQN.out; omega) hpsz wr)
        have HDR : Hid (Q.drop j = x :: Q.drop (j + 1)) := Lib.hid (by
          obtain ⟨h1, h2⟩ := List.getElem?_eq_some_iff.1 hx
          rw [List.drop_eq_getElem_cons h1, h2])
        have HJK := Lib.hid hjk
        obtain ⟨xo, hxo⟩ : ∃ xo, xo = x.1 := ⟨_, rfl⟩
        obtain ⟨xn, hxn⟩ : ∃ xn, xn = x.2 := ⟨_, rfl⟩
        rw [← hxo, ← hxn] at hcell hcs
        have HXO : Hid (xo = x.1 ∧ xn = x.2) := Lib.hid ⟨hxo, hxn⟩
        clear hx hxl hps hpsz hjk hxo hxn hjQ
        go_wp2_with fail
        refine HPT.out.mono ?_
        rintro e w5 ⟨p, rfl, hsp, hpm, hb5⟩
        have HSP : Hid (p.sp = sp j ((l.drop x.1).take x.2)) := Lib.hid (by rw [hsp, HPD.out])
        have HPM := Lib.hid (hpm.lower HB.out.size)
        have HB5 := Lib.hid (grows HB.out hb5)
        have HPS5 := Lib.hid (HPS.out.below hb5)
        have HRW5 : Hid (w5.ownsRow w3.heap.size 50 1 (.slice (some ⟨b1, 0, none⟩) k1 c1) k1 (Sl g Q)) := Lib.hid (own_only (S := fun _ => False) HRW.out (Only.of_below hb5) (fun _ _ e => e))
        have HBF5 := Lib.hid (HBF.out.below hb5)
        clear hsp hpm hb5 hcs hcell HPT
        obtain ⟨pk, hpk⟩ : ∃ pk : Int, pk = (p.k : Int) := ⟨_, rfl⟩
        obtain ⟨pt, hpt⟩ : ∃ pt, pt = p.t := ⟨_, rfl⟩
        obtain ⟨pA, hpA⟩ : ∃ pA, pA = p.A := ⟨_, rfl⟩
        obtain ⟨pm, hpm⟩ : ∃ pm, pm = p.os.length := ⟨_, rfl⟩
        obtain ⟨pc, hpc⟩ : ∃ pc, pc = p.c := ⟨_, rfl⟩
        have HCE : Hid (p.cells = [.int .i64 pk, .string pt, .slice pA pm pc, .slice none 0 0, .slice none 0 0]) := Lib.hid (by rw [hpk, hpt, hpA, hpm, hpc]; rfl)
        rw [← hpk, ← hpt, ← hpA, ← hpm, ← hpc]
        clear hpk hpt hpA hpm hpc
        obtain ⟨w6, hw6⟩ : ∃ w6, w6 = w5.alloc (.cells #[.int .i64 pk, .string pt, .slice pA pm pc, .slice none 0 0, .slice none 0 0] 38) := ⟨_, rfl⟩
        have B6 : Hid (Below w5.heap.size w5 w6) := Lib.hid (by rw [hw6]; exact below_alloc _ _)
        have HNC : Hid (∀ (j : Nat) (u : Value), ([.int .i64 pk, .string pt, .slice pA pm pc, .slice none 0 0, .slice none 0 0] : List Value)[j]? = some u → w6.cell? ((⟨w5.heap.size, 0, none⟩ : Addr).add j) = some u) := Lib.hid (by rw [hw6]; exact pt_cells _ _ _ _ _ _ _)
        have BB6 := Lib.hid (grows HB5.out B6.out)
        have HPS6 := Lib.hid (HPS5.out.below B6.out)
        have HPM6 := Lib.hid ((HPM.out.below B6.out))
        have HRW6 : Hid (w6.ownsRow w3.heap.size 50 1 (.slice (some ⟨b1, 0, none⟩) k1 c1) k1 (Sl g Q)) := Lib.hid (own_only (S := fun _ => False) HRW5.out (Only.of_below B6.out) (fun _ _ e => e))
        have HBF6 := Lib.hid (HBF5.out.below B6.out)
        have HOW6 : Hid (w6.ownsRow w.heap.size 38 5 (.slice A k c) k (Pcs L)) := Lib.hid (by have h := HPS6.out.o; rw [← HKJ.out.1] at h; exact h)
        have HK9 : Hid (k + 1 ≤ 1000001) := Lib.hid (by have h1 := HKJ.out.2; have h2 := HK1.out; have h3 := HQN.out; have h4 := HJK.out; omega)
        have H5S := Lib.hid B6.out.size
        go_wp2_with (at_builtin; rw [← hw6]; refine wpList_append_own_at _ rfl _ _ 29 rfl w.heap.size 38 i0 (.agg #[.int .i64 0, .string ⟨#[]⟩, .slice none 0 0, .slice none 0 0, .slice none 0 0]) 5 96 Tryd.underlying29 hi hz0 hz1 hz2 rfl (by decide) _ k (Pcs L) rfl HOW6.out ⟨w5.heap.size, 0, none⟩ 1 1 [.int .i64 pk, .string pt, .slice pA pm pc, .slice none 0 0, .slice none 0 0] rfl rfl HNC.out (pt_one _ _ _ _ _) ?a3 ?a4 ?a5 ?_)
        case a3 => unfold maxLen; have := HK9.out; omega
        case a4 => have := HK9.out; omega
        case a5 => first | exact BB6.out.size | (have h1 := HB5.out.size; have h2 := BB6.out.size; omega)
        intro v3 w7 hown hgrow _ _
        have O7 : Hid (Only (fun i => (Value.slice A k c).ownBlock = some i) w6 w7) := Lib.hid (by first | exact (Only.refl _ w6).grown hgrow (fun i hi _ => hi) | (rw [← hw6] at hgrow; exact (Only.refl _ w6).grown hgrow (fun i hi _ => hi)))
        have B7 : Hid (Below w.heap.size w w7) := Lib.hid (O7.out.below BB6.out BB6.out.size (fun i hi => (HOW6.out.lt i hi).1))
        obtain ⟨A7, c7, hv7⟩ : ∃ A7 c7, v3 = .slice A7 (k + 1) c7 := by
          rcases hown.2 with ⟨rfl, h0⟩ | ⟨g, cap, _, rfl, _⟩
          · omega
          · exact ⟨_, cap, rfl⟩
        subst hv7
        obtain ⟨k', hk'⟩ : ∃ k', k' = k + 1 := ⟨_, rfl⟩
        have HK7 : Hid (k' = (L ++ [p]).length ∧ k' = j + 1) := Lib.hid ⟨by rw [hk', List.length_append, HKJ.out.1]; rfl, by rw [hk', HKJ.out.2]⟩
        have PS7 : Hid (pcs' w.heap.size w7 (.slice A7 k' c7) (L ++ [p])) := Lib.hid ⟨by rw [Pcs_snoc, HCE.out, ← HK7.out.1, hk']; exact hown, fun q hq => by
          have hmm : ∀ q, pcM w.heap.size w6 q → pcM w.heap.size w7 q := fun q h => ⟨h.o.only O7.out (fun i hi e => own_two h.o HOW6.out (by decide) i hi e), h.n, h.l, h.k⟩
          rcases List.mem_append.1 hq with h | h
          · exact hmm q (HPS6.out.m q h)
          · obtain rfl : q = p := by simpa using h
            exact hmm q HPM6.out⟩
        have HRW7 : Hid (w7.ownsRow w3.heap.size 50 1 (.slice (some ⟨b1, 0, none⟩) k1 c1) k1 (Sl g Q)) := Lib.hid (own_only HRW6.out O7.out (fun i hi e => own_two HRW6.out HOW6.out (by decide) i hi e))
        have HBF7 : Hid (rbuf w7 (.slice (some ⟨g, 0, none⟩) s.size cap) l) := Lib.hid (HBF6.out.only O7.out (fun i hi e => by
          rcases HOW6.out.2 with ⟨e0, _⟩ | ⟨g9, cap9, cur9, e9, _, hh9, _⟩
          · rw [e0] at e; cases e
          · have h9 : g9 = i := by rw [e9] at e; simpa [Value.ownBlock] using e
            subst h9
            exact HBF6.out.apart (t := 38) (cs := cur9) hh9 (by decide) _ hi rfl))
        have HPO7 : Hid (partsOf l 0 Q = (L ++ [p]).map Pc.sp ++ partsOf l (j + 1) (Q.drop (j + 1))) := Lib.hid (by
          rw [HPO.out, HDR.out, List.map_append, List.append_assoc]
          show _ ++ (sp j _ :: partsOf l (j + 1) _) = _
          rw [← HSP.out]; rfl)
        rw [← hk']
        clear hown hgrow hk' hw6
        go_wp2
        go_roundw
        case rel => exact ⟨j + 1, k', c7, A7, L ++ [p], rfl, by first | rfl | go_num, by have := HJK.out; omega, HK7, PS7, HPO7, HRW7, HBF7, B7⟩
        case measure => have h1 := HJK.out; have h2 := HK1.out; have h3 := HQN.out; simp [intOf]; omega
      · have hjk' : ¬ (j : Int) < (k1 : Int) := by omega
        have HE : Hid (L.map Pc.sp = partsOf l 0 Q) := Lib.hid (by
          rw [HPO.out, List.drop_eq_nil_of_le (by have := HK1.out; omega)]
          show _ = _ ++ []
          rw [List.append_nil])
        clear hjk
        go_wp2
        go_ret
        exact ⟨A, c, L, by rw [HKJ.out.1]; rfl, HE.out, by have h := HPS.out; rw [HKJ.out.1] at h; exact h, HB.out⟩
end Go.Proofs.YtnkninjdpgpkmaaDoor.Hs
namespace Go.Proofs.YtnkninjdpgpkmaaDoor.Gy
open Go.RowKit Go.Proofs.YtnkninjdpgpkmaaDoor.Vm Go.Proofs.YtnkninjdpgpkmaaDoor.Vo Go.Proofs.YtnkninjdpgpkmaaDoor.Bm Go.Proofs.YtnkninjdpgpkmaaDoor.Bw Go.Proofs.YtnkninjdpgpkmaaDoor.Bv Go.Proofs.YtnkninjdpgpkmaaDoor.Na Go.Proofs.YtnkninjdpgpkmaaDoor.Nm Go.Proofs.YtnkninjdpgpkmaaDoor.Ne Go.Proofs.YtnkninjdpgpkmaaDoor.Pm Go.Proofs.YtnkninjdpgpkmaaDoor.Ko Go.Proofs.YtnkninjdpgpkmaaDoor.Km Go.Proofs.YtnkninjdpgpkmaaDoor.Kw Go.Proofs.YtnkninjdpgpkmaaDoor.Ks Go.Proofs.YtnkninjdpgpkmaaDoor.Kh Go.Proofs.YtnkninjdpgpkmaaDoor.Sm Go.Proofs.YtnkninjdpgpkmaaDoor.Sp Go.Proofs.YtnkninjdpgpkmaaDoor.Gm Go.Proofs.YtnkninjdpgpkmaaDoor.Ga Go.Proofs.YtnkninjdpgpkmaaDoor.Gp Go.Proofs.YtnkninjdpgpkmaaDoor.Gt Go.Proofs.YtnkninjdpgpkmaaDoor.Gw Go.Proofs.YtnkninjdpgpkmaaDoor.Gx

/-- What number leaves. -/
def wroteN (B : Nat) (w : World) (c ws : Nat) (li : List Nat) (y x m : Nat) (g : Nat) (v : Value) (l : List (Nat × Nat)) (e : Ending) (w' : World) : Prop :=
  (¬ has li y ∧ e = .returned (.int .i64 1) ∧ stay B w w') ∨ (has li y ∧ e = .returned (.int .i64 0) ∧ ∃ v', wrl B w' g v' (l ++ [sy li y, (x, m)]) ∧ cod B w' c ws li ∧ Only (fun i => own g v i ∨ i = ws) w w' ∧ stay B w w' ∧ later w v v')
theorem now_then {w w2 w3 : World} {g ws : Nat} {v v2 : Value} (o : Only (fun i => own g v i ∨ i = ws) w w2) (a : later w v v2) (k : Only (own g v2) w2 w3) : Only (fun i => own g v i ∨ i = ws) w w3 :=
  o.then k (fun i hi hlt => by
    rcases hi with rfl | hi
    · exact .inl (.inl rfl)
    · rcases own_of (g := g) a i hi with h | h
      · exact .inl h
      · omega)
section
variable {B : Nat} {w : World} {c ws g : Nat} {v : Value} {l : List (Nat × Nat)} {li : List Nat}
theorem sy_len {c ws : Nat} (h : cod B w c ws li) (y : Nat) : (sy li y).2 ≤ 15 := by
  obtain ⟨⟨A, cap, f, _, _, hL, he⟩, _, _⟩ := h
  have := L_le (err_zero he).2.1 y
  rw [hL] at this
  exact this
set_option maxHeartbeats 1000000 in
set_option maxRecDepth 100000 in
theorem number_len {z : Int} {y m x : Nat} (HF : ∀ u, Calls Tryd.prog 55 #[.int .i64 z] u fun e w' => e = .returned (.tuple #[.int .i64 (y : Int), .int .i64 (m : Int), .int .i64 (x : Int), .int .i64 0]) ∧ Below u.heap.size u w')
    (hc : cod B w c ws li) (hw : wrl B w g v l) (hz : bl l ≤ 281474976710000) (hy : y ≤ 1000000) (hx : x < 2 ^ m) (hm : m ≤ 32) :
    Calls Tryd.prog 54 #[.pointer (some ⟨c, 0, none⟩), .pointer (some ⟨g, 0, none⟩), .func (.func 55) #[] #[], .int .i64 z] w (wroteN B w c ws li y x m g v l) := by
  have HH := Lib.hid (HF w)
  have C := Lib.hid hc
  have W := Lib.hid hw
  have HZ := Lib.hid hz
  have HX := Lib.hid hx
  have HM := Lib.hid hm
  have HY := Lib.hid hy
  have HS := Lib.hid (sy_len hc y)
  clear HF hc hw hz hx hm hy
  go_enter Tryd.func54, Tryd.ntmps54
  go_wp2_with fail
  refine HH.out.mono ?_
  rintro e w1 ⟨rfl, b1⟩
  have W1 := Lib.hid (W.out.below b1)
  have C1 := Lib.hid (C.out.below b1)
  have B1 := Lib.hid b1
  clear b1
  go_wp2_with fail
  refine (write_any C1.out W1.out (by have := HZ.out; omega) HY.out).mono ?_
  intro e w2 hwr
  rcases hwr with ⟨h1, rfl, h3⟩ | ⟨h1, rfl, v2, h2, h3, h4, h5, h6⟩
  · have H1 := Lib.hid h1
    have H3 := Lib.hid h3
    clear h1 h3
    go_wp2
    go_ret
    exact .inl ⟨H1.out, rfl, (stay.of_below B1.out).trans H3.out⟩
  · have H1 := Lib.hid h1
    have H2 := Lib.hid h2
    have H3 := Lib.hid h3
    have H4 := Lib.hid h4
    have H5 := Lib.hid h5
    have H6 := Lib.hid h6
    have HP := Lib.hid (h2.put (y := x) (m := m) rfl rfl HX.out HM.out (by have h := HZ.out; have h' := HS.out; rw [bl_append]; simp only [bl]; omega))
    clear h1 h2 h3 h4 h5 h6
    go_wp2_with fail
    refine HP.out.mono ?_
    rintro e w3 ⟨rfl, v3, k3, o3, a3⟩
    have K3 := Lib.hid k3
    have O3 := Lib.hid o3
    have A3 := Lib.hid a3
    clear k3 o3 a3
    go_wp2
    go_ret
    have o13 := (Only.of_below B1.out).trans (now_then H4.out H6.out O3.out)
    refine .inr ⟨H1.out, rfl, v3, ?_, ?_, ?_, ?_, ?_⟩
    · have e := K3.out; rw [List.append_assoc] at e; exact e
    · have hne : ¬ own g v2 ws := by
        obtain ⟨F, hk, _⟩ := H3.out.k
        exact own_not H2.out hk ⟨by decide, by decide⟩
      exact H3.out.only (H2.out.stay O3.out) O3.out hne
    · exact o13
    · exact ((stay.of_below B1.out).trans H5.out).trans (H2.out.stay O3.out)
    · exact later_trans (later_le H6.out B1.out.size) A3.out (by have h1 := B1.out.size; have h2 := H4.out.size; omega)
set_option maxHeartbeats 1000000 in
set_option maxRecDepth 100000 in
theorem number_dist {z : Int} {y m x : Nat} (HF : ∀ u, Calls Tryd.prog 56 #[.int .i64 z] u fun e w' => e = .returned (.tuple #[.int .i64 (y : Int), .int .i64 (m : Int), .int .i64 (x : Int), .int .i64 0]) ∧ Below u.heap.size u w')
    (hc : cod B w c ws li) (hw : wrl B w g v l) (hz : bl l ≤ 281474976710000) (hy : y ≤ 1000000) (hx : x < 2 ^ m) (hm : m ≤ 32) :
    Calls Tryd.prog 54 #[.pointer (some ⟨c, 0, none⟩), .pointer (some ⟨g, 0, none⟩), .func (.func 56) #[] #[], .int .i64 z] w (wroteN B w c ws li y x m g v l) := by
  have HH := Lib.hid (HF w)
  have C := Lib.hid hc
  have W := Lib.hid hw
  have HZ := Lib.hid hz
  have HX := Lib.hid hx
  have HM := Lib.hid hm
  have HY := Lib.hid hy
  have HS := Lib.hid (sy_len hc y)
  clear HF hc hw hz hx hm hy
  go_enter Tryd.func54, Tryd.ntmps54
  go_wp2_with fail
  refine HH.out.mono ?_
  rintro e w1 ⟨rfl, b1⟩
  have W1 := Lib.hid (W.out.below b1)
  have C1 := Lib.hid (C.out.below b1)
  have B1 := Lib.hid b1
  clear b1
  go_wp2_with fail
  refine (write_any C1.out W1.out (by have := HZ.out; omega) HY.out).mono ?_
  intro e w2 hwr
  rcases hwr with ⟨h1, rfl, h3⟩ | ⟨h1, rfl, v2, h2, h3, h4, h5, h6⟩
  · have H1 := Lib.hid h1
    have H3 := Lib.hid h3
    clear h1 h3
    go_wp2
    go_ret
    exact .inl ⟨H1.out, rfl, (stay.of_below B1.out).trans H3.out⟩
  · have H1 := Lib.hid h1
    have H2 := Lib.hid h2
    have H3 := Lib.hid h3
    have H4 := Lib.hid h4
    have H5 := Lib.hid h5
    have H6 := Lib.hid h6
    have HP := Lib.hid (h2.put (y := x) (m := m) rfl rfl HX.out HM.out (by have h := HZ.out; have h' := HS.out; rw [bl_append]; simp only [bl]; omega))
    clear h1 h2 h3 h4 h5 h6
    go_wp2_with fail
    refine HP.out.mono ?_
    rintro e w3 ⟨rfl, v3, k3, o3, a3⟩
    have K3 := Lib.hid k3
    have O3 := Lib.hid o3
    have A3 := Lib.hid a3
    clear k3 o3 a3
    go_wp2
    go_ret
    have o13 := (Only.of_below B1.out).trans (now_then H4.out H6.out O3.out)
    refine .inr ⟨H1.out, rfl, v3, ?_, ?_, ?_, ?_, ?_⟩
    · have e := K3.out; rw [List.append_assoc] at e; exact e
    · have hne : ¬ own g v2 ws := by
        obtain ⟨F, hk, _⟩ := H3.out.k
        exact own_not H2.out hk ⟨by decide, by decide⟩
      exact H3.out.only (H2.out.stay O3.out) O3.out hne
    · exact o13
    · exact ((stay.of_below B1.out).trans H5.out).trans (H2.out.stay O3.out)
    · exact later_trans (later_le H6.out B1.out.size) A3.out (by have h1 := B1.out.size; have h2 := H4.out.size; omega)
end

/-- Both codes of a block, and the packer's writer. -/
structure pk (B : Nat) (w : World) (cl wl cd wd : Nat) (Li Di : List Nat) (g : Nat) (v : Value) (l : List (Nat × Nat)) : Prop where
  a : cod B w cl wl Li
  b : cod B w cd wd Di
  ne : wl ≠ wd
  w : wrl B w g v l
/-- What may be written. -/
def pko (g : Nat) (v : Value) (wl wd i : Nat) : Prop := own g v i ∨ i = wl ∨ i = wd
section
variable {B : Nat} {w w' : World} {cl wl cd wd g : Nat} {Li Di : List Nat} {v v' : Value} {l l' : List (Nat × Nat)}
theorem pk.below (h : pk B w cl wl cd wd Li Di g v l) (k : Below w.heap.size w w') : pk B w' cl wl cd wd Li Di g v l := ⟨h.a.below k, h.b.below k, h.ne, h.w.below k⟩
theorem pk.words (h : pk B w cl wl cd wd Li Di g v l) : (∃ cs, Blk w wl 105 cs) ∧ ∃ cs, Blk w wd 105 cs := by
  obtain ⟨F, hk, _⟩ := h.a.k
  obtain ⟨G, hl, _⟩ := h.b.k
  exact ⟨⟨_, hk⟩, ⟨_, hl⟩⟩
theorem pk.litw (h : pk B w cl wl cd wd Li Di g v l) (a : cod B w' cl wl Li) (o : Only (fun i => own g v i ∨ i = wl) w w') (s : stay B w w') (k : wrl B w' g v' l') : pk B w' cl wl cd wd Li Di g v' l' := by
  obtain ⟨⟨_, h1⟩, ⟨_, h2⟩⟩ := h.words
  exact ⟨a, h.b.only s o (fun e => by
    rcases e with e | e
    · exact own_not h.w h2 ⟨by decide, by decide⟩ e
    · exact h.ne e.symm), h.ne, k⟩
theorem pk.disw (h : pk B w cl wl cd wd Li Di g v l) (b : cod B w' cd wd Di) (o : Only (fun i => own g v i ∨ i = wd) w w') (s : stay B w w') (k : wrl B w' g v' l') : pk B w' cl wl cd wd Li Di g v' l' := by
  obtain ⟨⟨_, h1⟩, ⟨_, h2⟩⟩ := h.words
  exact ⟨h.a.only s o (fun e => by
    rcases e with e | e
    · exact own_not h.w h1 ⟨by decide, by decide⟩ e
    · exact h.ne e), b, h.ne, k⟩
theorem pko_then {w2 : World} {v2 : Value} (o : Only (pko g v wl wd) w w') (a : later w v v2) (k : Only (pko g v2 wl wd) w' w2) : Only (pko g v wl wd) w w2 :=
  o.then k (fun i hi hlt => by
    rcases hi with (rfl | hi) | hi
    · exact .inl (.inl rfl)
    · rcases own_of (g := g) a i hi with h | h
      · exact .inl h
      · omega
    · exact .inr hi)
end

/-- What comes of ops: what is wrong; without an error what was written. -/
def pkR (B : Nat) (w : World) (cl wl cd wd : Nat) (Li Di : List Nat) (g : Nat) (v : Value) (l : List (Nat × Nat)) (er : Int) (x : List (Nat × Nat)) (e : Ending) (w' : World) : Prop :=
  (er ≠ 0 ∧ e = .returned (.int .i64 er) ∧ stay B w w') ∨ (er = 0 ∧ e = .returned (.int .i64 0) ∧ ∃ v', pk B w' cl wl cd wd Li Di g v' (l ++ x) ∧ Only (pko g v wl wd) w w' ∧ stay B w w' ∧ later w v v')
/-- An op that can be done. -/
def okI (o : Opi) : Prop := o.n = 0 ∨ (3 ≤ o.n ∧ o.n ≤ 258 ∧ 1 ≤ o.d ∧ o.d ≤ 32768)
section
variable {B : Nat} {w : World} {cl wl cd wd g e0 : Nat} {Li Di : List Nat} {v : Value} {l : List (Nat × Nat)} {x1 x2 : Value}
theorem lit_has {o : Opi} (h : o.n = 0) : (hasO Li Di o.nat ↔ has Li o.x.toNat) ∧ encO Li Di o.nat = [sy Li o.x.toNat] := by
  have e : o.nat.n = 0 := by show o.n.toNat = 0; omega
  unfold hasO encO
  rw [if_pos e, if_pos e]
  exact ⟨Iff.rfl, rfl⟩
theorem copy_has {o : Opi} {n d : Nat} (hn : o.n = (n : Int)) (hd : o.d = (d : Int)) (h : 3 ≤ n) : (hasO Li Di o.nat ↔ has Li (257 + lS n) ∧ has Di (dS d)) ∧ encO Li Di o.nat = [sy Li (257 + lS n), (n - lB (lS n), lb (lS n)), sy Di (dS d), (d - dB (dS d), fb 2 (dS d))] := by
  have e : o.nat.n = n := by show o.n.toNat = n; omega
  have e2 : o.nat.d = d := by show o.d.toNat = d; omega
  unfold hasO encO
  rw [e, e2, if_neg (by omega), if_neg (by omega)]
  exact ⟨Iff.rfl, rfl⟩
set_option maxHeartbeats 2000000 in
set_option maxRecDepth 100000 in
theorem op_any {o : Opi} (ho : okI o) (h : pk B w cl wl cd wd Li Di g v l) (he : Blk w e0 63 #[.pointer (some ⟨g, 0, none⟩), x1, x2]) (hz : bl l ≤ 281474976700000) :
    Calls Tryd.prog 46 #[.pointer (some ⟨e0, 0, none⟩), .agg #[.int .u8 (o.x.toNat : Int), .int .i64 o.n, .int .i64 o.d], .agg #[.pointer (some ⟨cl, 0, none⟩), .pointer (some ⟨cd, 0, none⟩)]] w
      (pkR B w cl wl cd wd Li Di g v l (if hasO Li Di o.nat then 0 else 1) (encO Li Di o.nat)) := by
  obtain ⟨x, n, d⟩ := o
  dsimp only
  obtain ⟨yx, hyx⟩ : ∃ yx : Int, yx = (x.toNat : Int) := ⟨_, rfl⟩
  obtain ⟨yy, hyy⟩ : ∃ yy, yy = x.toNat := ⟨_, rfl⟩
  rw [← hyx]
  obtain ⟨w1, hw1⟩ : ∃ w1, w1 = (w.alloc (.cells #[.int .u8 yx, .int .i64 n, .int .i64 d] 41)).alloc (.cells #[.pointer (some ⟨cl, 0, none⟩), .pointer (some ⟨cd, 0, none⟩)] 59) := ⟨_, rfl⟩
  have B1 : Hid (Below w.heap.size w w1) := Lib.hid (by rw [hw1]; exact grows (below_alloc _ _) (below_alloc _ _))
  obtain ⟨Z, hZ⟩ : ∃ Z, Z = w.heap.size := ⟨_, rfl⟩
  have K1 : Hid (Blk w1 Z 41 #[.int .u8 yx, .int .i64 n, .int .i64 d]) := Lib.hid (by rw [hw1, hZ]; exact (Blk.fresh _ _ _).below (below_alloc _ _))
  have K2 : Hid (Blk w1 (Z + 1) 59 #[.pointer (some ⟨cl, 0, none⟩), .pointer (some ⟨cd, 0, none⟩)]) := Lib.hid (by
    rw [hw1, hZ]
    have := Blk.fresh (w.alloc (.cells #[.int .u8 yx, .int .i64 n, .int .i64 d] 41)) 59 #[.pointer (some ⟨cl, 0, none⟩), .pointer (some ⟨cd, 0, none⟩)]
    rw [size_alloc] at this
    exact this)
  have E1 := Lib.hid (he.below B1.out)
  have P1 := Lib.hid (h.below B1.out)
  have PD := Lib.hid (P1.out.below (Below.refl _ w1).drew)
  obtain ⟨er, her⟩ : ∃ er : Int, er = if hasO Li Di (Opi.nat ⟨x, n, d⟩) then 0 else 1 := ⟨_, rfl⟩
  rw [← her]
  have HER : Hid ((hasO Li Di (Opi.nat ⟨x, n, d⟩) → er = 0) ∧ (¬ hasO Li Di (Opi.nat ⟨x, n, d⟩) → er = 1)) := Lib.hid ⟨fun h => by rw [her, if_pos h], fun h => by rw [her, if_neg h]⟩
  clear her
  have HY256 : Hid (yy < 256) := Lib.hid (by rw [hyy]; exact x.toNat_lt)
  have HZ := Lib.hid hz
  have k0 : w1.cell? ⟨Z, 0, none⟩ = some (.int .u8 yx) := K1.out.cell 0
  have k1 : w1.cell? ⟨Z, 1, none⟩ = some (.int .i64 n) := K1.out.cell 1
  have k2 : w1.cell? ⟨Z, 2, none⟩ = some (.int .i64 d) := K1.out.cell 2
  have q0 : w1.cell? ⟨Z + 1, 0, none⟩ = some (.pointer (some ⟨cl, 0, none⟩)) := K2.out.cell 0
  have q1 : w1.cell? ⟨Z + 1, 1, none⟩ = some (.pointer (some ⟨cd, 0, none⟩)) := K2.out.cell 1
  have r0 : w1.cell? ⟨e0, 0, none⟩ = some (.pointer (some ⟨g, 0, none⟩)) := E1.out.cell 0
  by_cases h0 : n = 0
  · subst h0
    obtain ⟨p1, p2⟩ := lit_has (Li := Li) (Di := Di) (o := ⟨x, 0, d⟩) rfl
    have P2 : Hid (encO Li Di (Opi.nat ⟨x, 0, d⟩) = [sy Li yy]) := Lib.hid (by rw [p2, hyy])
    have PI : Hid (hasO Li Di (Opi.nat ⟨x, 0, d⟩) ↔ has Li yy) := Lib.hid (by rw [hyy]; exact p1)
    have hyxy : yx = (yy : Int) := by rw [hyx, hyy]
    have hcv : IntKind.i64.wrap yx = (yy : Int) := by rw [IntKind.wrap_i64]; have := HY256.out; omega
    have HWR := Lib.hid (write_any PD.out.a PD.out.w (by have := HZ.out; omega) (y := yy) (by have := HY256.out; omega))
    clear h he ho hz hyx hyy hyxy p1 p2
    go_enter Tryd.func46, Tryd.ntmps46
    go_wp2_with fail
    rw [← hw1, ← hZ]
    clear hw1 hZ
    go_still_tail 9, (by kernel_rfl)
    go_wp2_with fail
    refine HWR.out.mono ?_
    intro e w2 hwr
    rcases hwr with ⟨h1, rfl, h3⟩ | ⟨h1, rfl, v2, h2, h3, h4, h5, h6⟩
    · have H1 := Lib.hid h1
      have H3 := Lib.hid h3
      clear h1 h3
      go_wp2
      go_ret
      have hno : ¬ hasO Li Di (Opi.nat ⟨x, 0, d⟩) := fun e => H1.out (PI.out.1 e)
      exact .inl ⟨by rw [HER.out.2 hno]; decide, by rw [HER.out.2 hno]; rfl, (stay.of_below (B1.out.drew)).trans H3.out⟩
    · have H1 := Lib.hid h1
      have H2 := Lib.hid h2
      have H3 := Lib.hid h3
      have H4 := Lib.hid h4
      have H5 := Lib.hid h5
      have H6 := Lib.hid h6
      clear h1 h2 h3 h4 h5 h6
      go_wp2
      go_ret
      have hyes : hasO Li Di (Opi.nat ⟨x, 0, d⟩) := PI.out.2 H1.out
      refine .inr ⟨HER.out.1 hyes, rfl, v2, ?_, ?_, (stay.of_below (B1.out.drew)).trans H5.out, later_le H6.out (by exact B1.out.size)⟩
      · rw [P2.out]; exact PD.out.litw H3.out H4.out H5.out H2.out
      · exact (Only.of_below B1.out.drew).trans (H4.out.mono (fun i hi => hi.imp id .inl))
  · have hn0 : (n == 0) = false := by simp [h0]
    have ho' : 3 ≤ n ∧ n ≤ 258 ∧ 1 ≤ d ∧ d ≤ 32768 := ho.resolve_left h0
    obtain ⟨nn, rfl⟩ := Int.eq_ofNat_of_zero_le (show 0 ≤ n by omega)
    obtain ⟨dd, rfl⟩ := Int.eq_ofNat_of_zero_le (show 0 ≤ d by omega)
    have hn3 : 3 ≤ nn ∧ nn ≤ 258 := by omega
    have hd3 : 1 ≤ dd ∧ dd ≤ 32768 := by omega
    obtain ⟨p1, p2⟩ := copy_has (Li := Li) (Di := Di) (o := ⟨x, (nn : Int), (dd : Int)⟩) rfl rfl hn3.1
    have P2 := Lib.hid p2
    have PI := Lib.hid p1
    have HNL := Lib.hid (number_len (z := (nn : Int)) (y := 257 + lS nn) (m := lb (lS nn)) (x := nn - lB (lS nn)) (fun u => by
      have c := OfLength_any (z := (nn : Int)) (by omega) (by omega) u
      rw [ofL_in hn3.1 hn3.2] at c
      exact c) PD.out.a PD.out.w (by have := HZ.out; omega) (by have := lS_le nn; omega) (lS_hi hn3.1 hn3.2) (by have := lb_le (lS_le nn); omega))
    have HND : Hid (∀ u v' l', cod B u cd wd Di → wrl B u g v' l' → bl l' ≤ 281474976710000 → Calls Tryd.prog 54 #[.pointer (some ⟨cd, 0, none⟩), .pointer (some ⟨g, 0, none⟩), .func (.func 56) #[] #[], .int .i64 (dd : Int)] u (wroteN B u cd wd Di (dS dd) (dd - dB (dS dd)) (fb 2 (dS dd)) g v' l')) := Lib.hid (fun u v' l' hc hw hz' => number_dist (fun u => by
      have c := OfDist_any (z := (dd : Int)) (by omega) (by omega) u
      rw [ofD_in hd3.1 hd3.2] at c
      exact c) hc hw hz' (by have := dS_le dd; omega) (dS_hi hd3.1 hd3.2) (by have := fb2_le (k := dS dd) (by have := dS_le dd; omega); omega))
    have HBL : Hid (bl (l ++ [sy Li (257 + lS nn), (nn - lB (lS nn), lb (lS nn))]) ≤ 281474976710000) := Lib.hid (by
      have h1 := sy_len PD.out.a (257 + lS nn)
      have h2 := lb_le (lS_le nn)
      have h3 := HZ.out
      rw [bl_append]; simp only [bl]; omega)
    clear h he ho ho' hz hyx hyy p1 p2 hn3 hd3 h0
    go_enter Tryd.func46, Tryd.ntmps46
    go_wp2_with fail
    rw [← hw1, ← hZ]
    clear hw1 hZ
    go_still_tail 8, (by kernel_rfl)
    go_wp2_with fail
    refine HNL.out.mono ?_
    intro e w2 hwr
    rcases hwr with ⟨h1, rfl, h3⟩ | ⟨h1, rfl, v2, h2, h3, h4, h5, h6⟩
    · have H1 := Lib.hid h1
      have H3 := Lib.hid h3
      clear h1 h3
      go_wp2
      go_ret
      have hno : ¬ hasO Li Di (Opi.nat ⟨x, (nn : Int), (dd : Int)⟩) := fun e => H1.out (PI.out.1 e).1
      exact .inl ⟨by rw [HER.out.2 hno]; decide, by rw [HER.out.2 hno]; rfl, (stay.of_below (B1.out.drew)).trans H3.out⟩
    · have H1 := Lib.hid h1
      have PK2 := Lib.hid (PD.out.litw h3 h4 h5 h2)
      have S2 := Lib.hid ((stay.of_below (B1.out.drew)).trans h5)
      have O2 : Hid (Only (pko g v wl wd) w w2) := Lib.hid ((Only.of_below B1.out.drew).trans (h4.mono (fun i hi => hi.imp id .inl)))
      have A2 : Hid (later w v v2) := Lib.hid (later_le h6 (by exact B1.out.size))
      have q1' : w2.cell? ⟨Z + 1, 1, none⟩ = some (.pointer (some ⟨cd, 0, none⟩)) := (h5.blk (Blk.draws K2.out 1) ⟨by decide, by decide, by decide⟩).cell 1
      have k2' : w2.cell? ⟨Z, 2, none⟩ = some (.int .i64 (dd : Int)) := (h5.blk (Blk.draws K1.out 1) ⟨by decide, by decide, by decide⟩).cell 2
      have r0' : w2.cell? ⟨e0, 0, none⟩ = some (.pointer (some ⟨g, 0, none⟩)) := (h5.blk (Blk.draws E1.out 1) ⟨by decide, by decide, by decide⟩).cell 0
      have PD2 := Lib.hid (PK2.out.below (Below.refl _ w2).drew)
      have HN2 := Lib.hid (HND.out w2.drew v2 _ PD2.out.b PD2.out.w HBL.out)
      clear h1 h2 h3 h4 h5 h6 k0 k1 k2 q0 q1 r0
      go_wp2_with fail
      go_still_tail 8, (by kernel_rfl)
      go_wp2_with fail
      refine HN2.out.mono ?_
      intro e w3 hwr
      rcases hwr with ⟨h1, rfl, h3⟩ | ⟨g1, rfl, v3, h2, h3, h4, h5, h6⟩
      · have H2 := Lib.hid h1
        have H3 := Lib.hid h3
        clear h1 h3
        go_wp2
        go_ret
        have hno : ¬ hasO Li Di (Opi.nat ⟨x, (nn : Int), (dd : Int)⟩) := fun e => H2.out (PI.out.1 e).2
        exact .inl ⟨by rw [HER.out.2 hno]; decide, by rw [HER.out.2 hno]; rfl, (S2.out.trans (stay.of_below ((Below.refl _ w2).drew))).trans H3.out⟩
      · have G1 := Lib.hid g1
        have PK3 := Lib.hid (PD2.out.disw h3 h4 h5 h2)
        have S3 := Lib.hid ((S2.out.trans (stay.of_below ((Below.refl _ w2).drew))).trans h5)
        have O3 : Hid (Only (pko g v2 wl wd) w2.drew w3) := Lib.hid (h4.mono (fun i hi => hi.imp id .inr))
        have A3 := Lib.hid h6
        clear g1 h2 h3 h4 h5 h6
        go_wp2
        go_ret
        have hyes : hasO Li Di (Opi.nat ⟨x, (nn : Int), (dd : Int)⟩) := PI.out.2 ⟨H1.out, G1.out⟩
        refine .inr ⟨HER.out.1 hyes, rfl, v3, ?_, ?_, S3.out, later_trans A2.out A3.out O2.out.size⟩
        · rw [P2.out]
          have e := PK3.out
          rw [List.append_assoc] at e
          exact e
        · exact pko_then O2.out A2.out (undr O3.out)

theorem opsE_cons {o : Opx} {r : List Opx} : opsE Li Di (o :: r) = if hasO Li Di o then opsE Li Di r else 1 := rfl
set_option maxHeartbeats 2000000 in
set_option maxRecDepth 100000 in
theorem ops_any {W : World} {Ao : Option Addr} {co : Nat} {os : List Opi} (hos : opr W Ao os) (hok : ∀ o ∈ os, okI o) (hW : Below W.heap.size W w) (hB : B = W.heap.size) (h : pk B w cl wl cd wd Li Di g v l) (he : Blk w e0 63 #[.pointer (some ⟨g, 0, none⟩), x1, x2]) (hz : bl l + opsB (os.map Opi.nat) ≤ 281474976700000) :
    Calls Tryd.prog 35 #[.pointer (some ⟨e0, 0, none⟩), .slice Ao os.length co, .agg #[.pointer (some ⟨cl, 0, none⟩), .pointer (some ⟨cd, 0, none⟩)]] w
      (pkR B w cl wl cd wd Li Di g v l (opsE Li Di (os.map Opi.nat)) (encOs Li Di (os.map Opi.nat))) := by
  obtain ⟨N, hN⟩ : ∃ N, N = os.length := ⟨_, rfl⟩
  rw [← hN]
  have hBs : Hid (B ≤ w.heap.size) := Lib.hid h.w.size
  obtain ⟨w1, hw1⟩ : ∃ w1, w1 = w.alloc (.cells #[.pointer (some ⟨cl, 0, none⟩), .pointer (some ⟨cd, 0, none⟩)] 59) := ⟨_, rfl⟩
  have B1 : Hid (Below w.heap.size w w1) := Lib.hid (by rw [hw1]; exact below_alloc _ _)
  obtain ⟨Z, hZ⟩ : ∃ Z, Z = w.heap.size := ⟨_, rfl⟩
  have K1 : Hid (Blk w1 Z 59 #[.pointer (some ⟨cl, 0, none⟩), .pointer (some ⟨cd, 0, none⟩)]) := Lib.hid (by rw [hw1, hZ]; exact Blk.fresh _ _ _)
  have E1 := Lib.hid (he.below B1.out)
  have P1 := Lib.hid (h.below B1.out)
  have HW := Lib.hid hW
  have HB := Lib.hid hB
  have HOS := Lib.hid hos
  have HOK := Lib.hid hok
  have HZ := Lib.hid hz
  have HN := Lib.hid hN
  obtain ⟨R, hR⟩ : ∃ R, R = opsE Li Di (os.map Opi.nat) := ⟨_, rfl⟩
  obtain ⟨X, hX⟩ : ∃ X, X = encOs Li Di (os.map Opi.nat) := ⟨_, rfl⟩
  rw [← hR, ← hX]
  have HR := Lib.hid hR
  have HX := Lib.hid hX
  have hNl : N ≤ 281474976700000 := by unfold opsB at hz; rw [List.length_map, ← hN] at hz; omega
  clear hos hok hW hB h he hz hN hR hX
  go_enter Tryd.func35, Tryd.ntmps35
  go_wp2
  rw [← hw1, ← hZ]
  clear hw1 hZ
  go_loopw [12] (fun s12 wr => ∃ (j : Nat) (v' : Value) (y : List (Nat × Nat)), s12 = .int .i64 (j : Int) ∧ j ≤ N ∧ Hid (pk B wr cl wl cd wd Li Di g v' (l ++ y)) ∧ Hid (Only (pko g v wl wd) w wr ∧ stay B w wr ∧ later w v v') ∧ Hid (R = opsE Li Di ((os.drop j).map Opi.nat)) ∧ Hid (X = y ++ encOs Li Di ((os.drop j).map Opi.nat)) ∧ Hid (bl (l ++ y) + opsB ((os.drop j).map Opi.nat) ≤ 281474976700000) ∧ Hid (Blk wr Z 59 #[.pointer (some ⟨cl, 0, none⟩), .pointer (some ⟨cd, 0, none⟩)]) ∧ Hid (Blk wr e0 63 #[.pointer (some ⟨g, 0, none⟩), x1, x2])) (fun s12 _ => N - (intOf s12).toNat)
  case atStart => exact ⟨0, v, [], rfl, Nat.zero_le _, Lib.hid (by rw [List.append_nil]; exact P1.out), Lib.hid ⟨Only.of_below B1.out, stay.of_below B1.out, .inl rfl⟩, Lib.hid (by rw [List.drop_zero]; exact HR.out), Lib.hid (by rw [List.drop_zero]; exact HX.out), Lib.hid (by rw [List.drop_zero, List.append_nil]; exact HZ.out), K1, E1⟩
  case round =>
    obtain ⟨j, v', y, rfl, hj, HP, HF, HRR, HXX, HZZ, HK, HE⟩ := hrel
    have q0 : wr.cell? ⟨Z, 0, none⟩ = some (.pointer (some ⟨cl, 0, none⟩)) := HK.out.cell 0
    have q1 : wr.cell? ⟨Z, 1, none⟩ = some (.pointer (some ⟨cd, 0, none⟩)) := HK.out.cell 1
    have r0 : wr.cell? ⟨e0, 0, none⟩ = some (.pointer (some ⟨g, 0, none⟩)) := HE.out.cell 0
    by_cases hjn : j < N
    · have hjn' : (j : Int) < (N : Int) := by omega
      have hj0 : (0 : Int) ≤ (j : Int) := by omega
      obtain ⟨o, hoj⟩ : ∃ o, os[j]? = some o := ⟨_, List.getElem?_eq_getElem (by rw [← HN.out]; exact hjn)⟩
      have hdr := drop_cons hoj
      have hoo := HOK.out o (List.mem_of_getElem? hoj)
      have hBW : Below W.heap.size W wr := by
        have := HF.out.2.1.below (W := W) (by rw [HB.out]; exact HW.out) hBs.out
        rw [HB.out] at this
        exact this
      obtain ⟨i1, i2, bb, off, hA, hbb, c0, c1, c2⟩ := HOS.out j o hoj
      subst hA
      have hk : ∀ i, wr.cell? ⟨bb, i, none⟩ = W.cell? ⟨bb, i, none⟩ := fun i => hBW.cell (p := ⟨bb, i, none⟩) hbb
      have c0' := (hk _).trans c0
      have c1' := (hk _).trans c1
      have c2' := (hk _).trans c2
      have HRS : Hid (R = if hasO Li Di o.nat then opsE Li Di ((os.drop (j + 1)).map Opi.nat) else 1) := Lib.hid (by rw [HRR.out, hdr, List.map_cons, opsE_cons])
      have HXS : Hid (X = (y ++ encO Li Di o.nat) ++ encOs Li Di ((os.drop (j + 1)).map Opi.nat)) := Lib.hid (by rw [HXX.out, hdr, List.map_cons, List.append_assoc]; rfl)
      have HZS : Hid (bl (l ++ y) + 48 + opsB ((os.drop (j + 1)).map Opi.nat) ≤ 281474976700000) := Lib.hid (by have h1 := HZZ.out; rw [hdr, List.map_cons] at h1; unfold opsB at h1 ⊢; rw [List.length_cons] at h1; omega)
      obtain ⟨w3, hw3⟩ : ∃ w3, w3 = wr.alloc (.cells #[.int .u8 (o.x.toNat : Int), .int .i64 o.n, .int .i64 o.d] 41) := ⟨_, rfl⟩
      have B3 : Hid (Below wr.heap.size wr w3) := Lib.hid (by rw [hw3]; exact below_alloc _ _)
      have HPP := Lib.hid (HP.out.below B3.out)
      have HA := Lib.hid (op_any hoo HPP.out (HE.out.below B3.out) (by have := HZS.out; omega))
      have HJN := Lib.hid hjn
      have HOL : Hid (bl (encO Li Di o.nat) ≤ 48) := Lib.hid (by
        obtain ⟨⟨A1, q1, f1, _, _, hL1, he1⟩, _, _⟩ := HP.out.a
        obtain ⟨⟨A2, q2, f2, _, _, hL2, he2⟩, _, _⟩ := HP.out.b
        have ok1 : okL Li := by rw [← hL1]; exact ⟨L_le (err_zero he1).2.1, (err_zero he1).2.2⟩
        have ok2 : okL Di := by rw [← hL2]; exact ⟨L_le (err_zero he2).2.1, (err_zero he2).2.2⟩
        exact encO_bl ok1 ok2 _)
      obtain ⟨Eo, hEo⟩ : ∃ Eo, Eo = encO Li Di o.nat := ⟨_, rfl⟩
      rw [← hEo] at HXS HA HOL
      obtain ⟨go, hgo⟩ : ∃ go : Int, go = if hasO Li Di o.nat then 0 else 1 := ⟨_, rfl⟩
      rw [← hgo] at HA
      have HGO : Hid ((go = 0 → R = opsE Li Di ((os.drop (j + 1)).map Opi.nat)) ∧ (go ≠ 0 → R = go)) := Lib.hid (by
        by_cases hh : hasO Li Di o.nat
        · rw [if_pos hh] at hgo
          rw [HRS.out, if_pos hh]
          exact ⟨fun _ => rfl, fun e => absurd hgo e⟩
        · rw [if_neg hh] at hgo
          rw [HRS.out, if_neg hh]
          exact ⟨(fun e => by rw [hgo] at e; cases e), fun _ => hgo.symm⟩)
      clear hk c0 c1 c2 hoj hdr hbb hoo hBW HRS HRR HXX HZZ hjn hEo hgo i1 i2
      obtain ⟨x, on, od⟩ := o
      dsimp only at c0' c1' c2' HA hw3
      obtain ⟨yx, hyx⟩ : ∃ yx : Int, yx = (x.toNat : Int) := ⟨_, rfl⟩
      rw [← hyx] at c0' HA hw3
      clear hyx
      have q0' : (wr.alloc (.cells #[.int .u8 yx, .int .i64 on, .int .i64 od] 41)).cell? ⟨Z, 0, none⟩ = some (.pointer (some ⟨cl, 0, none⟩)) := by rw [← hw3]; exact (HK.out.below B3.out).cell 0
      have q1' : (wr.alloc (.cells #[.int .u8 yx, .int .i64 on, .int .i64 od] 41)).cell? ⟨Z, 1, none⟩ = some (.pointer (some ⟨cd, 0, none⟩)) := by rw [← hw3]; exact (HK.out.below B3.out).cell 1
      go_wp2_with fail
      rw [← hw3]
      clear hw3 c0' c1' c2' q0 q1 r0 q0' q1'
      refine HA.out.mono ?_
      intro e w4 ha
      rcases ha with ⟨h1, rfl, h3⟩ | ⟨h1, rfl, v4, h2, h3, h4, h5⟩
      · have hg : (go != 0) = true := by simp [h1]
        have HE2 := Lib.hid (HGO.out.2 h1)
        have H1 := Lib.hid h1
        have H3 := Lib.hid h3
        clear h1 h3
        go_wp2
        go_ret
        exact .inl ⟨by rw [HE2.out]; exact H1.out, by rw [HE2.out]; rfl, (HF.out.2.1.trans (stay.of_below B3.out)).trans H3.out⟩
      · have HE2 := Lib.hid (HGO.out.1 h1)
        have K4 := Lib.hid (h4.blk (HK.out.below B3.out) ⟨by decide, by decide, by decide⟩)
        have E4 := Lib.hid (h4.blk (HE.out.below B3.out) ⟨by decide, by decide, by decide⟩)
        have P4 : Hid (pk B w4 cl wl cd wd Li Di g v4 (l ++ (y ++ Eo))) := Lib.hid (by rw [← List.append_assoc]; exact h2)
        have F4 : Hid (Only (pko g v wl wd) w w4 ∧ stay B w w4 ∧ later w v v4) := Lib.hid ⟨pko_then HF.out.1 HF.out.2.2 ((Only.of_below B3.out).trans (h3)), (HF.out.2.1.trans (stay.of_below B3.out)).trans h4, later_trans HF.out.2.2 (later_le h5 B3.out.size) HF.out.1.size⟩
        have Z4 : Hid (bl (l ++ (y ++ Eo)) + opsB ((os.drop (j + 1)).map Opi.nat) ≤ 281474976700000) := Lib.hid (by
          have a1 := HZS.out
          have a2 := HOL.out
          rw [← List.append_assoc, bl_append]
          omega)
        clear h1 h2 h3 h4 h5
        go_wp2
        go_roundw
        case rel => exact ⟨j + 1, v4, y ++ Eo, by go_num, by have := HJN.out; omega, P4, F4, HE2, HXS, Z4, K4, E4⟩
        case measure => have := HJN.out; simp [intOf]; omega
    · have hjn' : ¬ (j : Int) < (N : Int) := by omega
      have hdn : os.drop j = [] := List.drop_eq_nil_of_le (by rw [← HN.out]; omega)
      have HRE : Hid (R = if has Li 256 then 0 else 1) := Lib.hid (by rw [HRR.out, hdn]; rfl)
      have HXE : Hid (X = y ++ [sy Li 256]) := Lib.hid (by rw [HXX.out, hdn]; rfl)
      have PD := Lib.hid (HP.out.below (Below.refl _ wr).drew)
      have HWR := Lib.hid (write_any PD.out.a PD.out.w (by have := HZZ.out; omega) (y := 256) (by omega))
      rw [show ((256 : Nat) : Int) = 256 from rfl] at HWR
      clear hjn hdn
      go_wp2_with fail
      go_still_tail 6, (by kernel_rfl)
      go_wp2_with fail
      refine HWR.out.mono ?_
      intro e w2 hwr
      rcases hwr with ⟨h1, rfl, h3⟩ | ⟨h1, rfl, v2, h2, h3, h4, h5, h6⟩
      · have H1 := Lib.hid h1
        have H3 := Lib.hid h3
        clear h1 h3
        go_wp2
        go_ret
        exact .inl ⟨by rw [HRE.out, if_neg H1.out]; decide, by rw [HRE.out, if_neg H1.out]; rfl, (HF.out.2.1.trans (stay.of_below ((Below.refl _ wr).drew))).trans H3.out⟩
      · have H1 := Lib.hid h1
        have H2 := Lib.hid h2
        have H3 := Lib.hid h3
        have H4 := Lib.hid h4
        have H5 := Lib.hid h5
        have H6 := Lib.hid h6
        clear h1 h2 h3 h4 h5 h6
        go_wp2
        go_ret
        refine .inr ⟨by rw [HRE.out, if_pos H1.out], rfl, v2, ?_, ?_, (HF.out.2.1.trans (stay.of_below ((Below.refl _ wr).drew))).trans H5.out, later_trans HF.out.2.2 H6.out HF.out.1.size⟩
        · rw [HXE.out, ← List.append_assoc]; exact PD.out.litw H3.out H4.out H5.out H2.out
        · exact pko_then HF.out.1 HF.out.2.2 ((undr H4.out).mono (fun i hi => hi.imp id .inl))
end
end Go.Proofs.YtnkninjdpgpkmaaDoor.Gy
