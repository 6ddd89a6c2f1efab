/-
  Ops and parts in memory; impossible, appendStored, appendOps, appendPart and Text of pack: their results.
  Are parts few enough: the reference's Bytes and the law's few: their results.
  Conditions: as each theorem says.
-/
import Derived.Test.YtnkninjdpgpkmaaGreatDoorBam
import Derived.Test.YtnkninjdpgpkmaaGreatDoorBat
import Derived.Test.YtnkninjdpgpkmaaGreatDoorBab
import Derived.Test.YtnkninjdpgpkmaaGreatDoorBau
namespace Go.Proofs.YtnkninjdpgpkmaaGreatDoor.Gt
open Go.RowKit Go.Proofs.YtnkninjdpgpkmaaGreatDoor.Vm Go.Proofs.YtnkninjdpgpkmaaGreatDoor.Vo Go.Proofs.YtnkninjdpgpkmaaGreatDoor.Bm Go.Proofs.YtnkninjdpgpkmaaGreatDoor.Bw Go.Proofs.YtnkninjdpgpkmaaGreatDoor.Na Go.Proofs.YtnkninjdpgpkmaaGreatDoor.Ko Go.Proofs.YtnkninjdpgpkmaaGreatDoor.Nm Go.Proofs.YtnkninjdpgpkmaaGreatDoor.Ne Go.Proofs.YtnkninjdpgpkmaaGreatDoor.Km Go.Proofs.YtnkninjdpgpkmaaGreatDoor.Kw Go.Proofs.YtnkninjdpgpkmaaGreatDoor.Ks Go.Proofs.YtnkninjdpgpkmaaGreatDoor.Sm Go.Proofs.YtnkninjdpgpkmaaGreatDoor.Fm Go.Proofs.YtnkninjdpgpkmaaGreatDoor.Gm Go.Proofs.YtnkninjdpgpkmaaGreatDoor.Ga Go.Proofs.YtnkninjdpgpkmaaGreatDoor.Gp Go.Proofs.YtnkninjdpgpkmaaGreatDoor.Ia

def in64 (z : Int) : Prop := -9223372036854775808 ≤ z ∧ z ≤ 9223372036854775807
/-- A row of ops that is read. -/
def opr (w : World) (A : Option Addr) (l : List Opi) : Prop := ∀ i o, l[i]? = some o → in64 o.n ∧ in64 o.d ∧ ∃ b off : Nat, A = some ⟨b, off, none⟩ ∧ b < w.heap.size ∧ w.cell? ⟨b, off + i * 3, none⟩ = some (.int .u8 (o.x.toNat : Int)) ∧ w.cell? ⟨b, off + i * 3 + 1, none⟩ = some (.int .i64 o.n) ∧ w.cell? ⟨b, off + i * 3 + 2, none⟩ = some (.int .i64 o.d)
theorem opr.below {w w' : World} {A : Option Addr} {l : List Opi} (h : opr w A l) (k : Below w.heap.size w w') : opr w' A l := fun i o hi => by
  obtain ⟨h1, h2, b, off, rfl, hb, c0, c1, c2⟩ := h i o hi
  exact ⟨h1, h2, b, off, rfl, Nat.lt_of_lt_of_le hb k.size, (k.cell (p := ⟨b, off + i * 3, none⟩) hb).trans c0, (k.cell (p := ⟨b, off + i * 3 + 1, none⟩) hb).trans c1, (k.cell (p := ⟨b, off + i * 3 + 2, none⟩) hb).trans c2⟩
theorem opr_nil (w : World) (A : Option Addr) : opr w A [] := fun i o h => by simp at h
/-- A row of parts that is read. -/
structure part1 (w : World) (b j : Nat) (p : Pz) : Prop where
  k : in64 p.k
  c0 : w.cell? ⟨b, j, none⟩ = some (.int .i64 p.k)
  c1 : w.cell? ⟨b, j + 1, none⟩ = some (.string p.t)
  os : ∃ A c, w.cell? ⟨b, j + 2, none⟩ = some (.slice A p.os.length c) ∧ opr w A p.os
  l1 : ∃ A c, w.cell? ⟨b, j + 3, none⟩ = some (.slice A p.n1 c) ∧ row w A p.n1 p.f1 ∧ p.n1 ≤ 9223372036854775807
  l2 : ∃ A c, w.cell? ⟨b, j + 4, none⟩ = some (.slice A p.n2 c) ∧ row w A p.n2 p.f2 ∧ p.n2 ≤ 9223372036854775807
theorem part1.below {w w' : World} {b j : Nat} {p : Pz} (h : part1 w b j p) (hb : b < w.heap.size) (k : Below w.heap.size w w') : part1 w' b j p := by
  have hc : ∀ i, w'.cell? ⟨b, i, none⟩ = w.cell? ⟨b, i, none⟩ := fun i => k.cell (p := ⟨b, i, none⟩) hb
  obtain ⟨A0, q0, e0, r0⟩ := h.os
  obtain ⟨A1, q1, e1, r1, n1⟩ := h.l1
  obtain ⟨A2, q2, e2, r2, n2⟩ := h.l2
  exact ⟨h.k, (hc _).trans h.c0, (hc _).trans h.c1, ⟨A0, q0, (hc _).trans e0, r0.below k⟩, ⟨A1, q1, (hc _).trans e1, r1.below k, n1⟩, ⟨A2, q2, (hc _).trans e2, r2.below k, n2⟩⟩
def ptr (w : World) (A : Option Addr) (l : List Pz) : Prop := ∀ i p, l[i]? = some p → ∃ b off : Nat, A = some ⟨b, off, none⟩ ∧ b < w.heap.size ∧ part1 w b (off + i * 5) p
theorem ptr.below {w w' : World} {A : Option Addr} {l : List Pz} (h : ptr w A l) (k : Below w.heap.size w w') : ptr w' A l := fun i p hi => by
  obtain ⟨b, off, rfl, hb, hp⟩ := h i p hi
  exact ⟨b, off, rfl, Nat.lt_of_lt_of_le hb k.size, hp.below hb k⟩

/-- A text on its way, all of it new since W. -/
structure txt (W w : World) (A : Option Addr) (n cap : Nat) (b : List UInt8) : Prop where
  r : rdy w (.slice A n cap) b
  o : ∀ i, ofR (.slice A n cap) i → W.heap.size ≤ i
  b : Below W.heap.size W w
section
variable {W w w1 w' : World} {A A' : Option Addr} {n n' cap cap' : Nat} {b t : List UInt8}
theorem txt.len (h : txt W w A n cap b) : n = b.length := by
  obtain ⟨A', cap', e, _⟩ := h.r.form
  injection e
theorem txt.below (h : txt W w A n cap b) (k : Below w.heap.size w w') : txt W w' A n cap b := ⟨h.r.below k, h.o, grows h.b k⟩
theorem txt.more (h : txt W w A n cap b) (k : Below w.heap.size w w1) (m : more w1 (.slice A n cap) t (.slice A' n' cap') w') : txt W w' A' n' cap' t :=
  ⟨m.1, fun i hi => (m.2.2 i hi).elim (h.o i) (fun e => Nat.le_trans (Nat.le_trans h.b.size k.size) e), m.2.1.below (grows h.b k) (grows h.b k).size h.o⟩
theorem txt_nil (W : World) : txt W W none 0 0 [] := ⟨rdy_nil W, (fun i ⟨_, _, _, e, _⟩ => by cases e), Below.refl _ _⟩
/-- The byte at a place. -/
theorem txt.cell (h : txt W w A n cap b) {j : Nat} (hj : j < b.length) : ∃ g o, A = some ⟨g, o, none⟩ ∧ w.cell? ⟨g, o + j, none⟩ = some (B (b.getD j 0)) := by
  obtain ⟨A', cap', e, _, hc⟩ := h.r.form
  obtain ⟨g, o, hA, _, hcell⟩ := hc (by omega)
  injection e with e1 _ _
  refine ⟨g, o, e1.trans hA, ?_⟩
  rw [hcell j hj, List.getD_eq_getElem?_getD, List.getElem?_eq_getElem hj]
  rfl
end
/-- What comes of a call that adds to a text. -/
def addR (W : World) (r : Int × List UInt8) (e : Ending) (w' : World) : Prop :=
  (r.1 ≠ 0 ∧ e = .returned (.tuple #[.slice none 0 0, .int .i64 r.1]) ∧ Below W.heap.size W w') ∨ (r.1 = 0 ∧ ∃ A n cap, e = .returned (.tuple #[.slice A n cap, .int .i64 0]) ∧ txt W w' A n cap r.2)

set_option maxRecDepth 100000 in
theorem produced_any (x : Int) (n d : Int) (w : World) : Calls Tryz.prog 74 #[.agg #[.int .u8 x, .int .i64 n, .int .i64 d]] w fun e w' => e = .returned (.int .i64 (if n = 0 then 1 else n)) ∧ Below w.heap.size w w' := by
  have b1 : Below w.heap.size w (w.alloc (.cells #[.int .u8 x, .int .i64 n, .int .i64 d] 89)) := below_alloc _ _
  by_cases h : n = 0
  · subst h
    rw [if_pos rfl]
    go_enter Tryz.func74, Tryz.ntmps74
    go_wp2
    go_ret
    exact ⟨rfl, b1⟩
  · have hb : (n == 0) = false := by simp [h]
    rw [if_neg h]
    go_enter Tryz.func74, Tryz.ntmps74
    go_wp2
    go_ret
    exact ⟨rfl, b1⟩
set_option maxHeartbeats 1000000 in
set_option maxRecDepth 100000 in
theorem impossible_any (o : Opi) (len : Nat) (hl : len ≤ 10000000) (w : World) : Calls Tryz.prog 110 #[.agg #[.int .u8 (o.x.toNat : Int), .int .i64 o.n, .int .i64 o.d], .int .i64 (len : Int)] w fun e w' => e = .returned (.int .i64 (opW len o)) ∧ Below w.heap.size w w' := by
  obtain ⟨x, n, d⟩ := o
  dsimp only
  obtain ⟨y, hy⟩ : ∃ y : Int, y = (x.toNat : Int) := ⟨_, rfl⟩
  rw [← hy]
  obtain ⟨R, hR⟩ : ∃ R, R = opW len ⟨x, n, d⟩ := ⟨_, rfl⟩
  rw [← hR]
  unfold opW at hR
  dsimp only at hR
  have b1 : Below w.heap.size w (w.alloc (.cells #[.int .u8 y, .int .i64 n, .int .i64 d] 89)) := below_alloc _ _
  obtain ⟨w1, hw1⟩ : ∃ w1, w1 = w.alloc (.cells #[.int .u8 y, .int .i64 n, .int .i64 d] 89) := ⟨_, rfl⟩
  rw [← hw1] at b1
  have B1 := Lib.hid b1
  have HPR := Lib.hid (produced_any y n d w1)
  have hsub : IntKind.i64.wrap (16777216 - (len : Int)) = ((16777216 - len : Nat) : Int) := by rw [IntKind.wrap_i64]; omega
  obtain ⟨m, hm⟩ : ∃ m, m = 16777216 - len := ⟨_, rfl⟩
  rw [← hm] at hsub
  clear hy b1
  by_cases h0 : n = 0
  · subst h0
    rw [if_pos rfl] at hR HPR
    subst hR
    have hr : ¬ (m : Int) < 1 := by omega
    clear hm hl
    go_enter Tryz.func110, Tryz.ntmps110
    go_wp2_with fail
    rw [← hw1]
    clear hw1
    refine HPR.out.mono ?_
    rintro e w2 ⟨rfl, b2⟩
    go_wp2
    go_ret
    exact ⟨rfl, grows B1.out b2⟩
  · have hn0 : (n != 0) = true := by simp [h0]
    rw [if_neg h0] at hR HPR
    have H0 := Lib.hid h0
    clear h0
    by_cases h1 : n < 3 ∨ 258 < n ∨ d < 1 ∨ 32768 < d
    · rw [if_pos h1] at hR
      subst hR
      rcases (show n < 3 ∨ (¬ n < 3 ∧ 258 < n) ∨ (¬ n < 3 ∧ ¬ 258 < n ∧ d < 1) ∨ (¬ n < 3 ∧ ¬ 258 < n ∧ ¬ d < 1 ∧ 32768 < d) by omega) with g | ⟨g1, g2⟩ | ⟨g1, g2, g3⟩ | ⟨g1, g2, g3, g4⟩
      all_goals
        clear h1 hm hl hsub
        go_enter Tryz.func110, Tryz.ntmps110
        go_wp2
        rw [← hw1]
        go_ret
        exact ⟨rfl, B1.out⟩
    · rw [if_neg h1] at hR
      obtain ⟨g1, g2, g3, g4⟩ : ¬ n < 3 ∧ ¬ 258 < n ∧ ¬ d < 1 ∧ ¬ 32768 < d := by omega
      by_cases h2 : (len : Int) < d
      · rw [if_pos h2] at hR
        subst hR
        clear h1 hm hl hsub
        go_enter Tryz.func110, Tryz.ntmps110
        go_wp2
        rw [← hw1]
        go_ret
        exact ⟨rfl, B1.out⟩
      · rw [if_neg h2] at hR
        subst hR
        have hr : ¬ (m : Int) < n := by omega
        clear h1 hm hl
        go_enter Tryz.func110, Tryz.ntmps110
        go_wp2_with fail
        rw [← hw1]
        clear hw1
        refine HPR.out.mono ?_
        rintro e w2 ⟨rfl, b2⟩
        go_wp2
        go_ret
        exact ⟨rfl, grows B1.out b2⟩

section
variable {W w : World} {A : Option Addr} {n cap : Nat} {b : List UInt8}
set_option maxRecDepth 100000 in
theorem appendStored_any (s : ByteArray) (h : txt W w A n cap b) (hc : b.length + s.size ≤ 1000000) :
    Calls Tryz.prog 75 #[.slice A n cap, .string s] w (addR W (if 65535 < s.size then (1, b) else (0, b ++ s.data.toList))) := by
  have H := Lib.hid h
  have hn := h.len
  by_cases h1 : 65535 < s.size
  · rw [if_pos h1]
    have h1' : (65535 : Int) < (s.size : Int) := by omega
    clear h hn hc
    go_enter Tryz.func75, Tryz.ntmps75
    go_wp2
    go_ret2
    exact .inl ⟨by show (1 : Int) ≠ 0; decide, rfl, H.out.b⟩
  · rw [if_neg h1]
    have h1' : ¬ (65535 : Int) < (s.size : Int) := by omega
    have hsub : IntKind.i64.wrap (16777216 - (n : Int)) = ((16777216 - n : Nat) : Int) := by rw [IntKind.wrap_i64]; omega
    obtain ⟨m, hm⟩ : ∃ m, m = 16777216 - n := ⟨_, rfl⟩
    rw [← hm] at hsub
    have h2 : ¬ (m : Int) < (s.size : Int) := by omega
    have HLM : Hid (b.length + s.size ≤ 1000000000) := Lib.hid (by omega)
    clear h hn hc hm h1
    go_enter Tryz.func75, Tryz.ntmps75
    go_wp2_with (at_builtin; refine wpList_rdy_str rfl _ _ rfl (.slice A n cap) rfl b H.out.r s rfl HLM.out ?_; intro A6 n6 cap6 w6 h6)
    go_ret2
    exact .inr ⟨rfl, A6, n6, cap6, rfl, H.out.more (Below.refl _ _) h6.out⟩

theorem drop_cons {α : Type} {l : List α} {j : Nat} {x : α} (h : l[j]? = some x) : l.drop j = x :: l.drop (j + 1) := by
  have hj := (List.getElem?_eq_some_iff.1 h).1
  rw [List.drop_eq_getElem_cons hj]
  rw [List.getElem?_eq_getElem hj] at h
  injection h with h
  rw [h]

set_option maxHeartbeats 2000000 in
set_option maxRecDepth 100000 in
theorem appendOps_any {Ao : Option Addr} {co : Nat} {os : List Opi} (h : txt W w A n cap b) (ho : opr W Ao os) (hc : b.length + opsC os ≤ 1000000) (hl : os.length ≤ 1000000) :
    Calls Tryz.prog 76 #[.slice A n cap, .slice Ao os.length co] w (addR W (opsT b os)) := by
  obtain ⟨N, hN⟩ : ∃ N, N = os.length := ⟨_, rfl⟩
  rw [← hN]
  rw [← hN] at hl
  have HN := Lib.hid hN
  have H := Lib.hid h
  have HO := Lib.hid ho
  have HC := Lib.hid hc
  obtain ⟨R, hR⟩ : ∃ R, R = opsT b os := ⟨_, rfl⟩
  rw [← hR]
  have HR := Lib.hid hR
  clear h ho hc hN hR
  go_enter Tryz.func76, Tryz.ntmps76
  go_wp2
  go_loopw [0, 11] (fun s0 s11 wr => ∃ (j : Nat) (A' : Option Addr) (n' cap' : Nat) (b' : List UInt8), s0 = .slice A' n' cap' ∧ s11 = .int .i64 (j : Int) ∧ j ≤ N ∧ Hid (txt W wr A' n' cap' b') ∧ Hid (R = opsT b' (os.drop j)) ∧ Hid (b'.length + opsC (os.drop j) ≤ 1000000)) (fun _ s11 _ => N - (intOf s11).toNat)
  case atStart => exact ⟨0, A, n, cap, b, rfl, rfl, Nat.zero_le _, H, Lib.hid (by rw [HR.out, List.drop_zero]), Lib.hid (by rw [List.drop_zero]; exact HC.out)⟩
  case round =>
    obtain ⟨j, A', n', cap', b', rfl, rfl, hj, HT, HRR, HCC⟩ := hrel
    by_cases hjn : j < N
    · have hjn' : (j : Int) < (N : Int) := by omega
      have hj0 : (0 : Int) ≤ (j : Int) := by omega
      obtain ⟨o, hoj⟩ : ∃ o, os[j]? = some o := ⟨_, List.getElem?_eq_getElem (by rw [← HN.out]; exact hjn)⟩
      have hdr := drop_cons hoj
      obtain ⟨i1, i2, bb, off, hA, hbb, c0, c1, c2⟩ := HO.out j o hoj
      subst hA
      have hk : ∀ i, wr.cell? ⟨bb, i, none⟩ = W.cell? ⟨bb, i, none⟩ := fun i => HT.out.b.cell (p := ⟨bb, i, none⟩) hbb
      have c0' := (hk _).trans c0
      have c1' := (hk _).trans c1
      have c2' := (hk _).trans c2
      have HRS : Hid (R = if opW b'.length o = 0 then opsT (b' ++ opO b' o.nat) (os.drop (j + 1)) else (opW b'.length o, b')) := Lib.hid (by rw [HRR.out, hdr, opsT_cons])
      have HCS : Hid (b'.length + opC o + opsC (os.drop (j + 1)) ≤ 1000000) := Lib.hid (by have h1 := HCC.out; rw [hdr] at h1; simp only [opsC] at h1; omega)
      have hnl := HT.out.len
      have HI := Lib.hid (fun u => impossible_any o b'.length (by have := HCS.out; omega) u)
      rw [← hnl] at HI HRS
      have HNL := Lib.hid hnl
      have HJN := Lib.hid hjn
      clear hk c0 c1 c2 hoj hdr hbb hnl HRR HCC hjn i1 i2
      obtain ⟨x, on, od⟩ := o
      dsimp only at c0' c1' c2' HI
      obtain ⟨y, hy⟩ : ∃ y : Int, y = (x.toNat : Int) := ⟨_, rfl⟩
      rw [← hy] at c0' HI
      have HY := Lib.hid hy
      obtain ⟨g, hg⟩ : ∃ g, g = opW n' ⟨x, on, od⟩ := ⟨_, rfl⟩
      rw [← hg] at HI HRS
      have HG := Lib.hid hg
      obtain ⟨w1, hw1⟩ : ∃ w1, w1 = wr.alloc (.cells #[.int .u8 y, .int .i64 on, .int .i64 od] 89) := ⟨_, rfl⟩
      obtain ⟨Z, hZ⟩ : ∃ Z, Z = wr.heap.size := ⟨_, rfl⟩
      have B1 : Hid (Below wr.heap.size wr w1) := Lib.hid (by rw [hw1]; exact below_alloc _ _)
      have K1 : Hid (Blk w1 Z 89 #[.int .u8 y, .int .i64 on, .int .i64 od]) := Lib.hid (by rw [hw1, hZ]; exact Blk.fresh _ _ _)
      clear hy hg
      go_wp2_with fail
      rw [← hw1]
      try rw [← hZ]
      clear hw1 hZ c0' c1' c2'
      refine (HI.out w1).mono ?_
      rintro e w2 ⟨rfl, b2⟩
      have B2 := Lib.hid (grows B1.out b2)
      have K2 := Lib.hid (K1.out.below b2)
      have T2 := Lib.hid (HT.out.below B2.out)
      clear b2
      have d0 : w2.cell? ⟨Z, 0, none⟩ = some (.int .u8 y) := K2.out.cell 0
      have d1 : w2.cell? ⟨Z, 1, none⟩ = some (.int .i64 on) := K2.out.cell 1
      have d2 : w2.cell? ⟨Z, 2, none⟩ = some (.int .i64 od) := K2.out.cell 2
      by_cases h0 : g = 0
      · have hg0 : (g != 0) = false := by simp [h0]
        have HW := Lib.hid (opW_zero (HG.out.symm.trans h0))
        have HRN : Hid (R = opsT (b' ++ opO b' (Opi.nat ⟨x, on, od⟩)) (os.drop (j + 1))) := Lib.hid (by rw [HRS.out, if_pos h0])
        have HOL : Hid ((opO b' (Opi.nat ⟨x, on, od⟩)).length ≤ opC ⟨x, on, od⟩) := Lib.hid (opO_len (by rw [← HNL.out]; exact HG.out.symm.trans h0))
        clear h0
        rcases HW.out with h | ⟨e1, e2, e3, e4, e5⟩
        · have h : on = 0 := h
          subst h
          have HOO : Hid (opO b' (Opi.nat ⟨x, 0, od⟩) = [x]) := Lib.hid (opO_lit rfl)
          obtain ⟨w3, hw3⟩ : ∃ w3, w3 = w2.alloc (.cells #[.int .u8 y] 5) := ⟨_, rfl⟩
          have B3 : Hid (Below w2.heap.size w2 w3) := Lib.hid (by rw [hw3]; exact below_alloc _ _)
          have HAD : Hid (w3.cell? ⟨w2.heap.size, 0, none⟩ = some (B x)) := Lib.hid (by rw [hw3, (Blk.fresh w2 5 #[.int .u8 y]).cell 0]; show some (Value.int IntKind.u8 y) = some (Value.int IntKind.u8 (x.toNat : Int)); rw [HY.out])
          have HLM : Hid (b'.length + 1 ≤ 1000000000) := Lib.hid (by have := HCS.out; omega)
          have T3 := Lib.hid (T2.out.below B3.out)
          have K3 := Lib.hid (K2.out.below B3.out)
          have HLT : Hid (w3.heap.size = w3.heap.size) := Lib.hid rfl
          go_wp2_with (at_builtin; rw [← hw3]; refine wpList_rdy_one rfl _ _ rfl (.slice A' n' cap') rfl b' T3.out.r ⟨w2.heap.size, 0, none⟩ 1 1 x rfl rfl HAD.out HLM.out ?_; intro A6 n6 cap6 w6 h6; have T6 := Lib.hid (T3.out.more (Below.refl _ _) h6.out); have k6 : Blk w6 Z 89 #[.int .u8 y, .int .i64 0, .int .i64 od] := K3.out.only h6.out.2.1 (fun e => by obtain ⟨cur, hb⟩ := T3.out.r.blk e; exact Blk.apart hb K3.out (by decide) rfl); have q1 : w6.cell? ⟨Z, 1, none⟩ = some (.int .i64 0) := k6.cell 1; clear k6 hw3 d0 d1 d2)
          have HD6 : Hid (txt W w6 A6 n6 cap6 (b' ++ [x])) := T6
          clear T6
          go_loopw [0, 32] (fun s0 s32 wx => s0 = .slice A6 n6 cap6 ∧ s32 = .int .i64 0 ∧ wx = w6) (fun _ _ _ => 0)
          case atStart => exact ⟨rfl, rfl, rfl⟩
          case round =>
            obtain ⟨rfl, rfl, rfl⟩ := hrel
            go_wp2
            go_roundw
            case rel => exact ⟨j + 1, A6, n6, cap6, _, rfl, by go_num, by have := HJN.out; omega, HD6, Lib.hid (by rw [HRN.out, HOO.out]), Lib.hid (by have h1 := HCS.out; have h2 := HOL.out; rw [HOO.out] at h2; rw [List.length_append]; omega)⟩
            case measure => have := HJN.out; simp [intOf]; omega
        · obtain ⟨nn, hnn⟩ := Int.eq_ofNat_of_zero_le (show 0 ≤ on by have e1 : 3 ≤ on := e1; omega)
          obtain ⟨dd, hdd⟩ := Int.eq_ofNat_of_zero_le (show 0 ≤ od by have e3 : 1 ≤ od := e3; omega)
          have e1 : 3 ≤ on := e1
          have e2 : on ≤ 258 := e2
          have e3 : 1 ≤ od := e3
          have e5 : od ≤ (n' : Int) := e5
          subst hnn
          subst hdd
          have hnn0 : ((nn : Int) == 0) = false := by simp; omega
          have HD3 : Hid (1 ≤ dd ∧ dd ≤ b'.length ∧ nn ≤ 258) := Lib.hid (by have := HNL.out; omega)
          have HOO : Hid (b' ++ opO b' (Opi.nat ⟨x, (nn : Int), (dd : Int)⟩) = Wm.ext b' dd nn) := Lib.hid (by
            rw [opO_copy (by exact e1), Wm.ext_out]; simp)
          have HBL : Hid (b'.length + nn ≤ 1000000) := Lib.hid (by
            have h1 := HCS.out
            unfold opC at h1
            dsimp only at h1
            rw [if_pos (by omega), Int.toNat_natCast] at h1
            omega)
          clear e1 e2 e3 e5 e4
          go_wp2
          go_loopw [0, 32] (fun s0 s32 wx => ∃ (i : Nat) (A6 : Option Addr) (n6 cap6 : Nat), s0 = .slice A6 n6 cap6 ∧ s32 = .int .i64 (i : Int) ∧ i ≤ nn ∧ Hid (txt W wx A6 n6 cap6 (Wm.ext b' dd i)) ∧ Hid (Blk wx Z 89 #[.int .u8 y, .int .i64 (nn : Int), .int .i64 (dd : Int)])) (fun _ s32 _ => nn - (intOf s32).toNat)
          case atStart => exact ⟨0, A', n', cap', rfl, rfl, Nat.zero_le _, T2, K2⟩
          case round =>
            obtain ⟨i, A6, n6, cap6, rfl, rfl, hi, T6, K6⟩ := hrel
            by_cases hin : i < nn
            · have hin' : (i : Int) < (nn : Int) := by omega
              obtain ⟨tb, htb⟩ : ∃ tb, tb = Wm.ext b' dd i := ⟨_, rfl⟩
              rw [← htb] at T6
              have hn6 := T6.out.len
              have htl : tb.length = b'.length + i := by rw [htb, Wm.ext_length]
              have hd3 := HD3.out
              have hbl := HBL.out
              obtain ⟨q, hq⟩ : ∃ q, q = b'.length + i - dd := ⟨_, rfl⟩
              have hidx : IntKind.i64.wrap ((n6 : Int) - (dd : Int)) = (q : Int) := by rw [IntKind.wrap_i64]; omega
              have hq0 : (0 : Int) ≤ (q : Int) := by omega
              have hqn : (q : Int) < (n6 : Int) := by omega
              obtain ⟨gb, ob, hA6, hcell⟩ := T6.out.cell (j := q) (by omega)
              obtain ⟨yv, hyv⟩ : ∃ yv, yv = tb.getD q 0 := ⟨_, rfl⟩
              rw [← hyv] at hcell
              have HNX : Hid (Wm.ext b' dd (i + 1) = tb ++ [yv]) := Lib.hid (by rw [Wm.ext_out, Wm.out_next, ← List.append_assoc, ← Wm.ext_out, ← htb, hyv, hq])
              obtain ⟨ys, hys⟩ : ∃ ys : Int, ys = (yv.toNat : Int) := ⟨_, rfl⟩
              have hcell' : wr.cell? ⟨gb, ob + q, none⟩ = some (.int .u8 ys) := by rw [hys]; exact hcell
              subst hA6
              obtain ⟨w3, hw3⟩ : ∃ w3, w3 = wr.alloc (.cells #[.int .u8 ys] 5) := ⟨_, rfl⟩
              have B3 : Hid (Below wr.heap.size wr w3) := Lib.hid (by rw [hw3]; exact below_alloc _ _)
              have HAD : Hid (w3.cell? ⟨wr.heap.size, 0, none⟩ = some (B yv)) := Lib.hid (by rw [hw3, (Blk.fresh wr 5 #[.int .u8 ys]).cell 0]; show some (Value.int IntKind.u8 ys) = some (Value.int IntKind.u8 (yv.toNat : Int)); rw [hys])
              have HLM : Hid (tb.length + 1 ≤ 1000000000) := Lib.hid (by omega)
              have T3 := Lib.hid (T6.out.below B3.out)
              have K3 := Lib.hid (K6.out.below B3.out)
              have q1 : wr.cell? ⟨Z, 1, none⟩ = some (.int .i64 (nn : Int)) := K6.out.cell 1
              have q2 : wr.cell? ⟨Z, 2, none⟩ = some (.int .i64 (dd : Int)) := K6.out.cell 2
              have HIN := Lib.hid hin
              clear htb hn6 htl hd3 hbl hq hcell hyv hys hin
              go_wp2_with (at_builtin; rw [← hw3]; refine wpList_rdy_one rfl _ _ rfl (.slice (some ⟨gb, ob, none⟩) n6 cap6) rfl tb T3.out.r ⟨wr.heap.size, 0, none⟩ 1 1 yv rfl rfl HAD.out HLM.out ?_; intro A7 n7 cap7 w7 h7; have T7 := Lib.hid (T3.out.more (Below.refl _ _) h7.out); have K7 : Hid (Blk w7 Z 89 #[.int .u8 y, .int .i64 (nn : Int), .int .i64 (dd : Int)]) := Lib.hid (K3.out.only h7.out.2.1 (fun e => by obtain ⟨cur, hb⟩ := T3.out.r.blk e; exact Blk.apart hb K3.out (by decide) rfl)))
              go_roundw
              case rel => exact ⟨i + 1, A7, n7, cap7, rfl, by go_num, by have := HIN.out; omega, Lib.hid (by rw [HNX.out]; exact T7.out), K7⟩
              case measure => have := HIN.out; simp [intOf]; omega
            · have hin' : ¬ (i : Int) < (nn : Int) := by omega
              obtain rfl : i = nn := by omega
              clear hin
              go_wp2
              go_roundw
              case rel => exact ⟨j + 1, A6, n6, cap6, _, rfl, by go_num, by have := HJN.out; omega, T6, Lib.hid (by rw [← HOO.out]; exact HRN.out), Lib.hid (by have h1 := HCS.out; have h2 := HOL.out; rw [← HOO.out, List.length_append]; omega)⟩
              case measure => have := HJN.out; simp [intOf]; omega
      · have hg0 : (g != 0) = true := by simp [h0]
        have HE : Hid (R = (g, b')) := Lib.hid (by rw [HRS.out, if_neg h0])
        have H0 := Lib.hid h0
        clear h0
        go_wp2
        go_ret2
        exact .inl ⟨by rw [HE.out]; exact H0.out, by rw [HE.out]; rfl, grows HT.out.b B2.out⟩
    · have hjn' : ¬ (j : Int) < (N : Int) := by omega
      have HE : Hid (R = (0, b')) := Lib.hid (by rw [HRR.out, List.drop_eq_nil_of_le (by rw [← HN.out]; omega)]; rfl)
      clear hjn
      go_wp2
      go_ret2
      exact .inr ⟨by rw [HE.out], A', n', cap', rfl, by rw [HE.out]; exact HT.out⟩

/-- A part's cells. -/
def pv (k : Int) (t : ByteArray) (o l1 l2 : Value) : Value := .agg #[.int .i64 k, .string t, o, l1, l2]
set_option maxHeartbeats 1000000 in
set_option maxRecDepth 100000 in
theorem appendPart_any {p : Pz} {Ao A1 A2 : Option Addr} {co c1 c2 : Nat} (h : txt W w A n cap b) (ho : opr W Ao p.os) (hc : b.length + ptC p ≤ 1000000) (hl : p.os.length ≤ 1000000) :
    Calls Tryz.prog 43 #[.slice A n cap, .agg #[.int .i64 p.k, .string p.t, .slice Ao p.os.length co, .slice A1 p.n1 c1, .slice A2 p.n2 c2]] w (addR W (ptT b p)) := by
  obtain ⟨k, t, os, n1, f1, n2, f2⟩ := p
  dsimp only at ho hl ⊢
  unfold ptC at hc
  dsimp only at hc
  obtain ⟨N, hN⟩ : ∃ N, N = os.length := ⟨_, rfl⟩
  obtain ⟨w1, hw1⟩ : ∃ w1, w1 = w.alloc (.cells #[.int .i64 k, .string t, .slice Ao N co, .slice A1 n1 c1, .slice A2 n2 c2] 92) := ⟨_, rfl⟩
  have B1 : Hid (Below w.heap.size w w1) := Lib.hid (by rw [hw1]; exact below_alloc _ _)
  have T1 := h.below B1.out
  have HS := Lib.hid (appendStored_any t T1 (by omega))
  have HP := Lib.hid (appendOps_any (co := co) T1 ho (by omega) hl)
  rw [← hN] at HP ⊢
  obtain ⟨R, hR⟩ : ∃ R, R = ptT b ⟨k, t, os, n1, f1, n2, f2⟩ := ⟨_, rfl⟩
  rw [← hR]
  unfold ptT at hR
  dsimp only at hR
  have HB := Lib.hid T1.b
  clear h ho hc hl hN T1
  by_cases h0 : k = 0
  · subst h0
    have HE : Hid (R = if 65535 < t.size then (1, b) else (0, b ++ t.data.toList)) := Lib.hid (by
      rw [hR]
      by_cases h1 : 65535 < t.size
      · rw [if_pos (.inr (.inr ⟨rfl, h1⟩)), if_pos h1]
      · rw [if_neg (by omega), if_pos rfl, if_neg h1])
    clear hR
    go_enter Tryz.func43, Tryz.ntmps43
    go_wp2_with fail
    rw [← hw1]
    clear hw1
    refine HS.out.mono ?_
    intro e w2 ha
    rw [← HE.out] at ha
    rcases ha with ⟨h1, rfl, h3⟩ | ⟨h1, A5, n5, c5, rfl, h3⟩
    all_goals
      have H1 := Lib.hid h1
      have H3 := Lib.hid h3
      clear h1 h3
      go_wp2
      go_ret2
    · exact .inl ⟨H1.out, rfl, H3.out⟩
    · exact .inr ⟨H1.out, A5, n5, c5, rfl, H3.out⟩
  · have hk0 : (k == 0) = false := by simp [h0]
    by_cases h1 : k = 1 ∨ k = 2
    · have HE : Hid (R = opsT b os) := Lib.hid (by rw [hR, if_neg (by omega), if_neg h0])
      clear hR h0
      rcases h1 with h1 | h1
      all_goals
        subst h1
        go_enter Tryz.func43, Tryz.ntmps43
        go_wp2_with fail
        rw [← hw1]
        clear hw1
        refine HP.out.mono ?_
        intro e w2 ha
        rw [← HE.out] at ha
        rcases ha with ⟨h1, rfl, h3⟩ | ⟨h1, A5, n5, c5, rfl, h3⟩
        · have H1 := Lib.hid h1
          have H3 := Lib.hid h3
          clear h1 h3
          go_wp2
          go_ret2
          exact .inl ⟨H1.out, rfl, H3.out⟩
        · have H1 := Lib.hid h1
          have H3 := Lib.hid h3
          clear h1 h3
          go_wp2
          go_ret2
          exact .inr ⟨H1.out, A5, n5, c5, rfl, H3.out⟩
    · have HE : Hid (R = (1, b)) := Lib.hid (by rw [hR, if_pos (by omega)])
      have hk1 : (k == 1) = false := by simp; omega
      have hk2 : (k == 2) = false := by simp; omega
      clear hR h0 h1
      go_enter Tryz.func43, Tryz.ntmps43
      go_wp2
      rw [← hw1]
      go_ret2
      exact .inl ⟨by rw [HE.out]; show (1 : Int) ≠ 0; decide, by rw [HE.out]; rfl, HB.out⟩
end

theorem list_ne {α : Type} {l : List α} (h : l.length ≠ 0) : l ≠ [] := fun e => h (by rw [e]; rfl)
set_option maxHeartbeats 2000000 in
set_option maxRecDepth 100000 in
theorem Text_any {w : World} {A : Option Addr} {c : Nat} {l : List Pz} (h : ptr w A l) (hc : ptsC l ≤ 1000000) (hl : l.length ≤ 1000000) (ho : ∀ p ∈ l, p.os.length ≤ 1000000) :
    Calls Tryz.prog 21 #[.slice A l.length c] w fun e w' => e = .returned (.tuple #[.string ⟨(textM l).2.toArray⟩, .int .i64 (textM l).1]) ∧ Below w.heap.size w w' := by
  obtain ⟨N, hN⟩ : ∃ N, N = l.length := ⟨_, rfl⟩
  rw [← hN]
  rw [← hN] at hl
  have HN := Lib.hid hN
  have H := Lib.hid h
  have HC := Lib.hid hc
  have HO := Lib.hid ho
  obtain ⟨R, hR⟩ : ∃ R, R = textM l := ⟨_, rfl⟩
  rw [← hR]
  clear h hc ho
  by_cases h0 : N = 0
  · have e : l = [] := List.eq_nil_of_length_eq_zero (by omega)
    rw [e, textM_nil] at hR
    subst hR
    subst h0
    clear e hN
    go_enter Tryz.func21, Tryz.ntmps21
    go_wp2
    go_ret2
    exact ⟨rfl, Below.refl _ _⟩
  · have hN0 : ((N : Int) == 0) = false := by simp; omega
    have HR : Hid (R = if (ptsT [] l).1 = 0 then ptsT [] l else ((ptsT [] l).1, [])) := Lib.hid (by rw [hR, textM_cons (list_ne (by omega))])
    obtain ⟨Q, hQ⟩ : ∃ Q, Q = ptsT [] l := ⟨_, rfl⟩
    rw [← hQ] at HR
    have HQ := Lib.hid hQ
    clear h0 hN hR hQ
    go_enter Tryz.func21, Tryz.ntmps21
    go_wp2
    go_loopw [4, 13] (fun s4 s13 wr => ∃ (j : Nat) (A' : Option Addr) (n' cap' : Nat) (b' : List UInt8), s4 = .slice A' n' cap' ∧ s13 = .int .i64 (j : Int) ∧ j ≤ N ∧ Hid (txt w wr A' n' cap' b') ∧ Hid (Q = ptsT b' (l.drop j)) ∧ Hid (b'.length + ptsC (l.drop j) ≤ 1000000)) (fun _ s13 _ => N - (intOf s13).toNat)
    case atStart => exact ⟨0, none, 0, 0, [], rfl, rfl, Nat.zero_le _, Lib.hid (txt_nil w), Lib.hid (by rw [HQ.out, List.drop_zero]), Lib.hid (by rw [List.drop_zero]; have := HC.out; simpa using this)⟩
    case round =>
      obtain ⟨j, A', n', cap', b', rfl, rfl, hj, HT, HRR, HCC⟩ := hrel
      by_cases hjn : j < N
      · have hjn' : (j : Int) < (N : Int) := by omega
        have hj0 : (0 : Int) ≤ (j : Int) := by omega
        obtain ⟨p, hpj⟩ : ∃ p, l[j]? = some p := ⟨_, List.getElem?_eq_getElem (by rw [← HN.out]; exact hjn)⟩
        have hdr := drop_cons hpj
        have hpo := HO.out p (List.mem_of_getElem? hpj)
        obtain ⟨bb, off, hA, hbb, hp⟩ := H.out j p hpj
        subst hA
        have hp' := hp.below hbb HT.out.b
        obtain ⟨Ao, co, eo, ro⟩ := hp'.os
        obtain ⟨A1, q1, e1, r1, m1⟩ := hp'.l1
        obtain ⟨A2, q2, e2, r2, m2⟩ := hp'.l2
        have g0 := hp'.c0
        have g1 := hp'.c1
        have HRS : Hid (Q = if (ptT b' p).1 = 0 then ptsT (ptT b' p).2 (l.drop (j + 1)) else ptT b' p) := Lib.hid (by rw [HRR.out, hdr]; rfl)
        have HCS : Hid (b'.length + ptC p + ptsC (l.drop (j + 1)) ≤ 1000000) := Lib.hid (by have h1 := HCC.out; rw [hdr] at h1; simp only [ptsC] at h1; omega)
        have HLE := Lib.hid (ptT_len b' p)
        have roW : opr w Ao p.os := by
          obtain ⟨Aw, cw, ew, rw'⟩ := hp.os
          have h1 := (HT.out.b.cell (p := ⟨bb, off + j * 5 + 2, none⟩) hbb).trans ew
          rw [h1] at eo
          injection eo with eo
          injection eo with eo _ _
          subst eo
          exact rw'
        obtain ⟨w1, hw1⟩ : ∃ w1, w1 = wr.alloc (.cells #[.int .i64 p.k, .string p.t, .slice Ao p.os.length co, .slice A1 p.n1 q1, .slice A2 p.n2 q2] 92) := ⟨_, rfl⟩
        have B1 : Hid (Below wr.heap.size wr w1) := Lib.hid (by rw [hw1]; exact below_alloc _ _)
        have HA := Lib.hid (appendPart_any (p := p) (Ao := Ao) (A1 := A1) (A2 := A2) (co := co) (c1 := q1) (c2 := q2) (HT.out.below B1.out) roW (by have := HCS.out; omega) hpo)
        have HJN := Lib.hid hjn
        obtain ⟨r, hr⟩ : ∃ r, r = ptT b' p := ⟨_, rfl⟩
        rw [← hr] at HRS HA HLE
        clear hp hp' ro r1 m1 r2 m2 hdr hpj hbb HRR HCC hjn roW hpo hr
        obtain ⟨pk, pt, pos, pn1, pf1, pn2, pf2⟩ := p
        dsimp only at g0 g1 eo e1 e2 HA hw1
        obtain ⟨No, hNo⟩ : ∃ No, No = pos.length := ⟨_, rfl⟩
        rw [← hNo] at eo HA hw1
        clear hNo
        go_wp2_with fail
        rw [← hw1]
        clear hw1 g0 g1 eo e1 e2
        refine HA.out.mono ?_
        intro e w2 ha
        rcases ha with ⟨h1, rfl, h3⟩ | ⟨h1, A5, n5, c5, rfl, h3⟩
        · obtain ⟨re, rt⟩ := r
          dsimp only at h1
          have hg : (re != 0) = true := by simp [h1]
          have HE : Hid (R = (re, [])) := Lib.hid (by rw [HR.out, HRS.out, if_neg h1, if_neg h1])
          have H3 := Lib.hid h3
          clear h1 h3
          dsimp only
          go_wp2
          go_ret2
          exact ⟨by rw [HE.out]; rfl, H3.out⟩
        · have HE : Hid (Q = ptsT r.2 (l.drop (j + 1))) := Lib.hid (by rw [HRS.out, if_pos h1])
          have H3 := Lib.hid h3
          clear h1 h3
          go_wp2
          go_roundw
          case rel => exact ⟨j + 1, A5, n5, c5, r.2, rfl, by go_num, by have := HJN.out; omega, H3, HE, Lib.hid (by have h1 := HCS.out; have h2 := HLE.out; omega)⟩
          case measure => have := HJN.out; simp [intOf]; omega
      · have hjn' : ¬ (j : Int) < (N : Int) := by omega
        have HE : Hid (R = (0, b')) := Lib.hid (by rw [HR.out, HRR.out, List.drop_eq_nil_of_le (by rw [← HN.out]; omega)]; rfl)
        have hcv := rdy_take (cp := cap') HT.out.r (x := n') (by rw [← HT.out.len]; exact Nat.le_refl _)
        rw [List.take_of_length_le (by rw [← HT.out.len]; exact Nat.le_refl _)] at hcv
        clear hjn
        go_wp2
        go_ret2
        exact ⟨by rw [HE.out]; rfl, HT.out.b⟩
end Go.Proofs.YtnkninjdpgpkmaaGreatDoor.Gt
namespace Go.Proofs.YtnkninjdpgpkmaaGreatDoor.Hf
open Go.RowKit Go.Proofs.YtnkninjdpgpkmaaGreatDoor.Vm Go.Proofs.YtnkninjdpgpkmaaGreatDoor.Vo Go.Proofs.YtnkninjdpgpkmaaGreatDoor.Bm Go.Proofs.YtnkninjdpgpkmaaGreatDoor.Bw Go.Proofs.YtnkninjdpgpkmaaGreatDoor.Na Go.Proofs.YtnkninjdpgpkmaaGreatDoor.Gp Go.Proofs.YtnkninjdpgpkmaaGreatDoor.Gt

/-- A part that is small enough. -/
def fit (p : Pz) : Prop := p.t.size ≤ 70000 ∧ p.os.length ≤ 400 ∧ p.n1 ≤ 400 ∧ p.n2 ≤ 400
theorem opsC_snoc : ∀ (os : List Opi) (o : Opi), opsC (os ++ [o]) = opsC os + opC o
  | [], o => by simp [opsC]
  | y :: os, o => by simp only [List.cons_append, opsC]; rw [opsC_snoc os o]; omega
theorem ptsC_snoc : ∀ (l : List Pz) (p : Pz), ptsC (l ++ [p]) = ptsC l + ptC p
  | [], p => by simp [ptsC]
  | y :: l, p => by simp only [List.cons_append, ptsC]; rw [ptsC_snoc l p]; omega
theorem opC_le (o : Opi) : opC o ≤ 300 := by unfold opC; split <;> omega
theorem opsC_le : ∀ os : List Opi, opsC os ≤ 300 * os.length
  | [] => Nat.le_refl _
  | o :: r => by have := opsC_le r; have := opC_le o; simp only [opsC, List.length_cons]; omega
/-- What Bytes answers. -/
def bytesIs (l : List Pz) (z : Int) : Prop := z = -1 ∨ (l.length ≤ 30 ∧ (∀ p ∈ l, fit p) ∧ z = (ptsC l : Int))

set_option maxHeartbeats 2000000 in
set_option maxRecDepth 100000 in
theorem Bytes_any {w : World} {A : Option Addr} {cp : Nat} {l : List Pz} (h : ptr w A l) :
    Calls Tryz.prog 41 #[.slice A l.length cp] w fun e w' => ∃ z : Int, e = .returned (.int .i64 z) ∧ bytesIs l z ∧ w = w' := by
  obtain ⟨n, hn⟩ : ∃ n, n = l.length := ⟨_, rfl⟩
  have H := Lib.hid h
  have HN := Lib.hid hn
  rw [← hn]
  clear h hn
  by_cases h30 : 30 < n
  · have h30' : (30 : Int) < (n : Int) := by omega
    clear h30
    go_enter Tryz.func41, Tryz.ntmps41
    go_wp2
    go_ret
    exact ⟨-1, rfl, .inl rfl, rfl⟩
  · have h30' : ¬ (30 : Int) < (n : Int) := by omega
    go_enter Tryz.func41, Tryz.ntmps41
    go_wp2
    go_loop [4, 3] (fun i c => ∃ (j acc : Nat), i = .int .i64 (j : Int) ∧ c = .int .i64 (acc : Int) ∧ j ≤ n ∧ acc ≤ j * 200000 ∧ Hid (∀ q ∈ l.take j, fit q) ∧ Hid (acc = ptsC (l.take j))) (fun i _ => n - (intOf i).toNat)
    case atStart => exact ⟨0, 0, rfl, rfl, Nat.zero_le _, Nat.zero_le _, Lib.hid (fun q hq => by simp at hq), Lib.hid (by rw [List.take_zero]; rfl)⟩
    case round =>
      obtain ⟨j, acc, rfl, rfl, hj, hacc, HF, HA⟩ := hrel
      by_cases hjn : j < n
      · have hjn' : (j : Int) < (n : Int) := by omega
        have hj0 : (0 : Int) ≤ (j : Int) := by omega
        obtain ⟨p, hp⟩ : ∃ p, l[j]? = some p := ⟨_, List.getElem?_eq_getElem (by rw [← HN.out]; exact hjn)⟩
        obtain ⟨bb, off, hA, hbb, hq⟩ := H.out j p hp
        subst hA
        have k1 := hq.c1
        obtain ⟨A2, c2, k2, hos⟩ := hq.os
        obtain ⟨A3, c3, k3, _, _⟩ := hq.l1
        obtain ⟨A4, c4, k4, _, _⟩ := hq.l2
        have HP := Lib.hid hp
        have HOS := Lib.hid hos
        obtain ⟨t, ht⟩ : ∃ t, t = p.t := ⟨_, rfl⟩
        obtain ⟨m2, hm2⟩ : ∃ m, m = p.os.length := ⟨_, rfl⟩
        obtain ⟨m3, hm3⟩ : ∃ m, m = p.n1 := ⟨_, rfl⟩
        obtain ⟨m4, hm4⟩ : ∃ m, m = p.n2 := ⟨_, rfl⟩
        rw [← ht] at k1
        rw [← hm2] at k2
        rw [← hm3] at k3
        rw [← hm4] at k4
        have HT := Lib.hid ht
        have HM2 := Lib.hid hm2
        have HFI : Hid (t.size ≤ 70000 ∧ m2 ≤ 400 ∧ m3 ≤ 400 ∧ m4 ≤ 400 → fit p) := Lib.hid (by rw [ht, hm2, hm3, hm4]; exact id)
        have HJN := Lib.hid hjn
        clear hp hq hos hbb ht hm2 hm3 hm4 hjn
        by_cases f1 : 70000 < t.size
        · have g1 : (70000 : Int) < (t.size : Int) := by omega
          clear f1
          go_wp2
          go_ret
          exact ⟨-1, rfl, .inl rfl, rfl⟩
        · have g1 : ¬ (70000 : Int) < (t.size : Int) := by omega
          by_cases f2 : 400 < m2
          · have g2 : (400 : Int) < (m2 : Int) := by omega
            clear f1 f2
            go_wp2
            go_ret
            exact ⟨-1, rfl, .inl rfl, rfl⟩
          · have g2 : ¬ (400 : Int) < (m2 : Int) := by omega
            by_cases f3 : 400 < m3
            · have g3 : (400 : Int) < (m3 : Int) := by omega
              clear f1 f2 f3
              go_wp2
              go_ret
              exact ⟨-1, rfl, .inl rfl, rfl⟩
            · have g3 : ¬ (400 : Int) < (m3 : Int) := by omega
              by_cases f4 : 400 < m4
              · have g4 : (400 : Int) < (m4 : Int) := by omega
                clear f1 f2 f3 f4
                go_wp2
                go_ret
                exact ⟨-1, rfl, .inl rfl, rfl⟩
              · have g4 : ¬ (400 : Int) < (m4 : Int) := by omega
                have HFP := Lib.hid (HFI.out ⟨by omega, by omega, by omega, by omega⟩)
                have hj30 : j ≤ 30 := by omega
                have HF2 := Lib.hid f2
                have hm4 : m2 ≤ 400 := by omega
                have ht7 : t.size ≤ 70000 := by omega
                clear f1 f2 f3 f4
                go_wp2
                clear g1 g2 g3 g4 k3 k4
                go_loop [5, 3] (fun i c => ∃ (q a2 : Nat), i = .int .i64 (q : Int) ∧ c = .int .i64 (a2 : Int) ∧ q ≤ m2 ∧ a2 ≤ acc + t.size + q * 300 ∧ Hid (a2 = acc + t.size + opsC (p.os.take q))) (fun i _ => m2 - (intOf i).toNat)
                case atStart => exact ⟨0, acc + t.size, rfl, by go_num, Nat.zero_le _, by omega, Lib.hid (by rw [List.take_zero]; rfl)⟩
                case round =>
                  obtain ⟨q, a2, rfl, rfl, hqm, ha2, HA2⟩ := hrel
                  by_cases hqn : q < m2
                  · have hqn' : (q : Int) < (m2 : Int) := by omega
                    have hq0 : (0 : Int) ≤ (q : Int) := by omega
                    obtain ⟨o, ho⟩ : ∃ o, p.os[q]? = some o := ⟨_, List.getElem?_eq_getElem (by rw [← HM2.out]; exact hqn)⟩
                    obtain ⟨⟨i1, i2⟩, _, b2, off2, hA2', hb2, _, y1, _⟩ := HOS.out q o ho
                    subst hA2'
                    have hT2 : p.os.take (q + 1) = p.os.take q ++ [o] := by rw [List.take_add_one, ho]; rfl
                    have HOC : Hid (opsC (p.os.take (q + 1)) = opsC (p.os.take q) + opC o) := Lib.hid (by rw [hT2, opsC_snoc])
                    have HFQ := Lib.hid HF2.out
                    obtain ⟨x, hx⟩ : ∃ x, x = o.n := ⟨_, rfl⟩
                    have HOX : Hid (opC o = (if 0 < x ∧ x < 300 then x.toNat else 0) + 1) := Lib.hid (by rw [hx]; rfl)
                    rw [← hx] at y1
                    clear ho hT2 i1 i2 hb2 hx
                    rcases (show ¬ 0 < x ∨ (0 < x ∧ ¬ x < 300) ∨ (0 < x ∧ x < 300) by omega) with c1 | ⟨c1, c1'⟩ | ⟨c1, c1'⟩
                    · have HE : Hid (opsC (p.os.take (q + 1)) = opsC (p.os.take q) + 1) := Lib.hid (by rw [HOC.out, HOX.out, if_neg (by omega)])
                      go_wp2
                      go_round
                      case rel => exact ⟨q + 1, a2 + 1, by go_num, by go_num, by omega, by omega, Lib.hid (by have h1 := HE.out; have h2 := HA2.out; omega)⟩
                      case measure => simp [intOf]; omega
                    · have HE : Hid (opsC (p.os.take (q + 1)) = opsC (p.os.take q) + 1) := Lib.hid (by rw [HOC.out, HOX.out, if_neg (by omega)])
                      go_wp2
                      go_round
                      case rel => exact ⟨q + 1, a2 + 1, by go_num, by go_num, by omega, by omega, Lib.hid (by have h1 := HE.out; have h2 := HA2.out; omega)⟩
                      case measure => simp [intOf]; omega
                    · obtain ⟨xn, rfl⟩ := Int.eq_ofNat_of_zero_le (show 0 ≤ x by omega)
                      have HE : Hid (opsC (p.os.take (q + 1)) = opsC (p.os.take q) + (xn + 1)) := Lib.hid (by rw [HOC.out, HOX.out, if_pos ⟨c1, c1'⟩]; rfl)
                      go_wp2
                      go_round
                      case rel => exact ⟨q + 1, a2 + xn + 1, by go_num, by go_num, by omega, by omega, Lib.hid (by have h1 := HE.out; have h2 := HA2.out; omega)⟩
                      case measure => simp [intOf]; omega
                  · obtain rfl : q = m2 := by omega
                    have hqn' : ¬ (q : Int) < (q : Int) := by omega
                    have h4 := HF2.out
                    have h5 : ¬ 70000 < t.size := by have := HFP.out.1; rw [← HT.out] at this; omega
                    have HTK : Hid (l.take (j + 1) = l.take j ++ [p]) := Lib.hid (by rw [List.take_add_one, HP.out]; rfl)
                    go_wp2
                    go_round
                    case rel => exact ⟨j + 1, a2, by go_num, rfl, by have := HJN.out; omega, by omega, Lib.hid (fun x hx => by
                      rw [HTK.out] at hx
                      rcases List.mem_append.1 hx with h | h
                      · exact HF.out x h
                      · obtain rfl : x = p := by simpa using h
                        exact HFP.out), Lib.hid (by
                      rw [HTK.out, ptsC_snoc, ← HA.out, HA2.out, List.take_of_length_le (by rw [← HM2.out]; exact Nat.le_refl _)]
                      unfold ptC
                      rw [← HT.out]; omega)⟩
                    case measure => have := HJN.out; simp [intOf]; omega
      · obtain rfl : j = n := by omega
        have hjn' : ¬ ((j : Int) < (j : Int)) := by omega
        have e : l.take j = l := List.take_of_length_le (by rw [← HN.out]; exact Nat.le_refl _)
        go_wp2
        go_ret
        refine ⟨_, rfl, .inr ⟨by rw [← HN.out]; omega, ?_, ?_⟩, rfl⟩
        · have := HF.out; rw [e] at this; exact this
        · rw [HA.out, e]

/-- What few answers. -/
def fewIs (l : List Pz) : Prop := l.length ≤ 30 ∧ (∀ p ∈ l, fit p) ∧ ptsC l ≤ 100000
set_option maxHeartbeats 1000000 in
set_option maxRecDepth 100000 in
theorem few_any {w : World} {A : Option Addr} {cp : Nat} {l : List Pz} (h : ptr w A l) :
    Calls Tryz.prog 19 #[.slice A l.length cp] w fun e w' => ∃ b : Bool, e = .returned (.bool b) ∧ (b = true → fewIs l) ∧ w = w' := by
  have HB := Lib.hid (Bytes_any (cp := cp) h)
  obtain ⟨n, hn⟩ : ∃ n, n = l.length := ⟨_, rfl⟩
  rw [← hn] at HB ⊢
  clear h hn
  go_enter Tryz.func19, Tryz.ntmps19
  go_wp2_with fail
  refine HB.out.mono ?_
  rintro e w' ⟨z, rfl, hz, rfl⟩
  have HZ := Lib.hid hz
  clear hz HB
  rcases (show ¬ 0 ≤ z ∨ (0 ≤ z ∧ ¬ z ≤ 100000) ∨ (0 ≤ z ∧ z ≤ 100000) by omega) with c1 | ⟨c1, c1'⟩ | ⟨c1, c1'⟩
  · have d1 : decide (0 ≤ z) = false := by simp; omega
    go_wp2
    go_ret
    exact ⟨false, rfl, (fun h => by cases h), rfl⟩
  · have d1 : decide (0 ≤ z) = true := by simp; omega
    have d2 : decide (z ≤ 100000) = false := by simp; omega
    go_wp2
    go_ret
    exact ⟨false, rfl, (fun h => by cases h), rfl⟩
  · have d1 : decide (0 ≤ z) = true := by simp; omega
    have d2 : decide (z ≤ 100000) = true := by simp; omega
    go_wp2
    go_ret
    refine ⟨true, rfl, fun _ => ?_, rfl⟩
    rcases HZ.out with h | ⟨h1, h2, h3⟩
    · omega
    · exact ⟨h1, h2, by omega⟩
end Go.Proofs.YtnkninjdpgpkmaaGreatDoor.Hf
