/-
  The reference's work: a reader and the bytes that are made; put, further, stored.
  The reference's copied.
  The reference's coded.
  The reference's All.
  The reference's All where the preset is longer than 32768 bytes; All for all presets.
  The law file's known(), for inflate: it answers true; nothing that was there has changed. small(): whether texts are small.
  Conditions: as each theorem says.
-/
import Derived.Test.YtnkninjdpgpkmaaGreatDoorBat
import Derived.Test.YtnkninjdpgpkmaaGreatDoorBbo
import Derived.Test.YtnkninjdpgpkmaaGreatDoorBch
import Derived.Test.YtnkninjdpgpkmaaGreatDoorBcb
import Derived.Test.YtnkninjdpgpkmaaGreatDoorBbt
import Derived.StillTailTactics
import Derived.Test.YtnkninjdpgpkmaaGreatDoorBcj
import Derived.Test.YtnkninjdpgpkmaaGreatDoorBbu
namespace Go.Proofs.YtnkninjdpgpkmaaGreatDoor.Irb
open Go.RowKit Go.Proofs.YtnkninjdpgpkmaaGreatDoor.Vm Go.Proofs.YtnkninjdpgpkmaaGreatDoor.Vo Go.Proofs.YtnkninjdpgpkmaaGreatDoor.Bm Go.Proofs.YtnkninjdpgpkmaaGreatDoor.Bw Go.Proofs.YtnkninjdpgpkmaaGreatDoor.Bp Go.Proofs.YtnkninjdpgpkmaaGreatDoor.Bs Go.Proofs.YtnkninjdpgpkmaaGreatDoor.Bq Go.Proofs.YtnkninjdpgpkmaaGreatDoor.Be Go.Proofs.YtnkninjdpgpkmaaGreatDoor.Wr Go.Proofs.YtnkninjdpgpkmaaGreatDoor.Wc Go.Proofs.YtnkninjdpgpkmaaGreatDoor.Ww Go.Proofs.YtnkninjdpgpkmaaGreatDoor.Pm Go.Proofs.YtnkninjdpgpkmaaGreatDoor.Pr Go.Proofs.YtnkninjdpgpkmaaGreatDoor.Sm Go.Proofs.YtnkninjdpgpkmaaGreatDoor.Sp Go.Proofs.YtnkninjdpgpkmaaGreatDoor.Sr Go.Proofs.YtnkninjdpgpkmaaGreatDoor.Me Go.Proofs.YtnkninjdpgpkmaaGreatDoor.Fm Go.Proofs.YtnkninjdpgpkmaaGreatDoor.Im Go.Proofs.YtnkninjdpgpkmaaGreatDoor.Ia Go.Proofs.YtnkninjdpgpkmaaGreatDoor.Ira

/-- The work at g: its reader at r, the bytes c (v), of which the first pre are the preset. -/
def wk (w : World) (g r : Nat) (s : ByteArray) (a : Nat) (v : Value) (c : List UInt8) (pre : Nat) : Prop :=
  Blk w g 73 #[.pointer (some ⟨r, 0, none⟩), v, .int .i64 (pre : Int)] ∧ rr w r s a ∧ rbuf w v c ∧ pre ≤ c.length
/-- What it may write. -/
def ow (g r : Nat) (v : Value) (i : Nat) : Prop := i = g ∨ i = r ∨ v.ownBlock = some i
/-- Where the bytes lie behind it. -/
def lat (w : World) (v v' : Value) : Prop := ∀ i, v'.ownBlock = some i → v.ownBlock = some i ∨ w.heap.size ≤ i
section
variable {w w' : World} {g r : Nat} {s : ByteArray} {a : Nat} {v : Value} {c : List UInt8} {pre : Nat}
theorem lat.refl (w : World) (v : Value) : lat w v v := fun _ h => .inl h
theorem wk.ne (h : wk w g r s a v c pre) : g ≠ r ∧ (∀ i, v.ownBlock = some i → i ≠ g) ∧ ∀ i, v.ownBlock = some i → i ≠ r :=
  ⟨Blk.apart h.1 h.2.1 (by decide), h.2.2.1.apart h.1 (by decide), h.2.2.1.apart h.2.1 (by decide)⟩
theorem wk.below (h : wk w g r s a v c pre) (k : Below w.heap.size w w') : wk w' g r s a v c pre := ⟨h.1.below k, h.2.1.below k, h.2.2.1.below k, h.2.2.2⟩
theorem wk.draws (h : wk w g r s a v c pre) (n : Nat) : wk (w.drewN n) g r s a v c pre := h
/-- Its reader has moved. -/
theorem wk.moved {a' : Nat} (h : wk w g r s a v c pre) (o : Only (At r) w w') (r' : rr w' r s a') : wk w' g r s a' v c pre ∧ Only (ow g r v) w w' :=
  ⟨⟨h.1.only o (fun e => h.ne.1 e), r', h.2.2.1.only o (fun i hi e => h.ne.2.2 i hi e), h.2.2.2⟩, o.mono (fun _ e => .inr (.inl e))⟩
/-- Its bytes have grown. -/
theorem wk.put {v' : Value} {x : List UInt8} {w1 w2 : World} (h : wk w g r s a v c pre) (b1 : Below w.heap.size w w1) (hb : rbuf w2 v' (c ++ x)) (o : Only (of v) w1 w2) (hl : ∀ i, v'.ownBlock = some i → v.ownBlock = some i ∨ w1.heap.size ≤ i) :
    wk (w2.setCell ⟨g, 1, none⟩ v') g r s a v' (c ++ x) pre ∧ Only (ow g r v) w (w2.setCell ⟨g, 1, none⟩ v') ∧ lat w v v' := by
  have h1 := h.below b1
  have k2 : Blk w2 g 73 #[.pointer (some ⟨r, 0, none⟩), v, .int .i64 (pre : Int)] := h1.1.only o (fun e => h1.ne.2.1 g e rfl)
  have r2 : rr w2 r s a := h1.2.1.only o (fun e => h1.ne.2.2 r e rfl)
  have k3 := k2.store 1 v'
  have o3 : Only (fun i => i = g) w2 (w2.setCell ⟨g, 1, none⟩ v') := (Only.refl (fun i => i = g) w2).store (p := ⟨g, 1, none⟩) (.inl rfl) v'
  refine ⟨⟨k3, r2.only o3 (fun e => h.ne.1 e.symm), hb.only o3 (hb.apart k2 (by decide)), by rw [List.length_append]; have := h.2.2.2; omega⟩, ?_, fun i hi => (hl i hi).imp id (fun e => Nat.le_trans b1.size e)⟩
  exact ((Only.of_below b1).trans (o.mono (fun i e => .inr (.inr e)))).trans (o3.mono (fun i e => .inl e))

set_option maxHeartbeats 1000000 in
set_option maxRecDepth 100000 in
theorem rput_any {z : Int} (x : UInt8) (hz : z = (x.toNat : Int)) (h : wk w g r s a v c pre) (hc : c.length ≤ 2000000) :
    Calls Tryz.prog 66 #[.pointer (some ⟨g, 0, none⟩), .int .u8 z] w fun e w' => e = .returned (.bool true) ∧ ∃ v', wk w' g r s a v' (c ++ [x]) pre ∧ Only (ow g r v) w w' ∧ lat w v v' := by
  subst hz
  obtain ⟨b, cap, rfl, _, _, _, _⟩ := h.2.2.1.block
  have H := Lib.hid h
  have HC := Lib.hid hc
  obtain ⟨n, hn⟩ : ∃ n, n = c.length := ⟨_, rfl⟩
  have HN := Lib.hid hn
  have hpre := h.2.2.2
  rw [← hn] at h H hc hpre
  have hlt : ¬ (16777216 : Int) ≤ (n : Int) - (pre : Int) := by omega
  have hge : (0 : Int) ≤ (n : Int) - (pre : Int) := by omega
  have c1 : w.cell? ⟨g, 1, none⟩ = some (.slice (some ⟨b, 0, none⟩) n cap) := h.1.cell 1
  have c2 : w.cell? ⟨g, 2, none⟩ = some (.int .i64 (pre : Int)) := h.1.cell 2
  clear h hn
  go_enter Tryz.func66, Tryz.ntmps66
  go_wp2
  go_quiet (fail)
  have HB0 : Hid (Below w.heap.size w (w.drewN nq)) := Lib.hid (below_draws w nq)
  have c0 : (w.drewN nq).cell? ⟨g, 1, none⟩ = some (.slice (some ⟨b, 0, none⟩) n cap) := c1
  clear c1 c2
  generalize w.drewN nq = w0 at *
  obtain ⟨w6, hw6⟩ : ∃ w6, w6 = w0.alloc (.cells #[.int .u8 (x.toNat : Int)] 5) := ⟨_, rfl⟩
  have HB6 : Hid (Below w.heap.size w w6) := Lib.hid (by rw [hw6]; exact grows HB0.out ((Below.refl _ w0).alloc (Nat.le_refl _) _))
  have HAD : Hid (w6.cell? ⟨w0.heap.size, 0, none⟩ = some (B x)) := Lib.hid (by rw [hw6]; exact (Blk.fresh w0 5 #[.int .u8 (x.toNat : Int)]).cell 0)
  have HLM : Hid (c.length + 1 ≤ 1000000000) := Lib.hid (by have := HC.out; omega)
  have HY6 : Hid (rbuf w6 (.slice (some ⟨b, 0, none⟩) n cap) c) := Lib.hid (H.out.below HB6.out).2.2.1
  have HF6 : Hid (∀ w7, Only (of (.slice (some ⟨b, 0, none⟩) n cap)) w6 w7 → w7.frozen? ⟨g, 1, none⟩ = false ∧ w7.cell? ⟨g, 1, none⟩ = some (.slice (some ⟨b, 0, none⟩) n cap)) := Lib.hid (fun w7 h7 => (fun hb => ⟨Blk.frozen hb 1, Blk.cell hb 1⟩) ((H.out.below HB6.out).1.only h7 (fun e => H.out.ne.2.1 g e rfl)))
  go_wp2_with (at_builtin; rw [← hw6]; refine wpList_rbuf_one rfl _ _ rfl (.slice (some ⟨b, 0, none⟩) n cap) rfl c HY6.out ⟨w0.heap.size, 0, none⟩ 1 1 x rfl rfl HAD.out HLM.out (n + 1) (by rw [HN.out]) ?_; intro b7 cap7 w7 h7; have f7 : w7.frozen? ⟨g, 1, none⟩ = false := (HF6.out w7 h7.out.2.1).1; have c7 : w7.cell? ⟨g, 1, none⟩ = some (.slice (some ⟨b, 0, none⟩) n cap) := (HF6.out w7 h7.out.2.1).2)
  go_ret
  exact ⟨rfl, _, H.out.put HB6.out h7.out.1 h7.out.2.1 (fun i hi => by obtain rfl : b7 = i := Option.some.inj hi; exact h7.out.2.2)⟩

set_option maxHeartbeats 1000000 in
set_option maxRecDepth 100000 in
theorem rfurther_has {z y : Int} {b m : Nat} (hy : y = (b : Int)) (hz : z = (m : Int)) (hb : b ≤ 100000) (hm : m ≤ 32) (h : wk w g r s a v c pre) (hs : s.size ≤ 281474976710656) (ha : a + m ≤ 8 * s.size) :
    Calls Tryz.prog 106 #[.pointer (some ⟨g, 0, none⟩), .int .i64 y, .int .i64 z] w fun e w' => e = .returned (.tuple #[.int .i64 ((b + peekN (num s.data.toList) a m : Nat) : Int), .int .i64 0]) ∧ wk w' g r s (a + m) v c pre ∧ Only (ow g r v) w w' := by
  subst hy hz
  have H := Lib.hid h
  have c0 : w.cell? ⟨g, 0, none⟩ = some (.pointer (some ⟨r, 0, none⟩)) := h.1.cell 0
  have HB := Lib.hid (rBits_has (z := (m : Int)) rfl hm h.2.1 hs ha)
  have hx := peekN_lt (num s.data.toList) a m
  have hp : 2 ^ m ≤ 2 ^ 32 := Nat.pow_le_pow_right (by omega) hm
  generalize peekN (num s.data.toList) a m = x at *
  have hx : x < 4294967296 := by omega
  have hcast : ((b + x : Nat) : Int) = (b : Int) + (x : Int) := by omega
  rw [hcast]
  clear h hs ha hp hcast
  go_enter Tryz.func106, Tryz.ntmps106
  go_wp2_with fail
  refine HB.out.mono ?_
  rintro e w1 ⟨rfl, r1, o1⟩
  have G := Lib.hid (H.out.moved o1 r1)
  clear r1 o1 HB c0
  go_wp2
  go_ret2
  exact ⟨rfl, G.out⟩
set_option maxHeartbeats 1000000 in
set_option maxRecDepth 100000 in
theorem rfurther_short {z y : Int} {b m : Nat} (hy : y = (b : Int)) (hz : z = (m : Int)) (hb : b ≤ 100000) (hm : m ≤ 32) (h : wk w g r s a v c pre) (hs : s.size ≤ 281474976710656) (ha : a ≤ 8 * s.size) (hl : 8 * s.size - a < m) :
    Calls Tryz.prog 106 #[.pointer (some ⟨g, 0, none⟩), .int .i64 y, .int .i64 z] w fun e w' => e = .returned (.tuple #[.int .i64 (b : Int), .int .i64 2]) ∧ wk w' g r s a v c pre ∧ Only (ow g r v) w w' := by
  subst hy hz
  have H := Lib.hid h
  have c0 : w.cell? ⟨g, 0, none⟩ = some (.pointer (some ⟨r, 0, none⟩)) := h.1.cell 0
  have HB := Lib.hid (rBits_short (z := (m : Int)) rfl hm h.2.1 hs ha hl)
  clear h hs ha hl
  go_enter Tryz.func106, Tryz.ntmps106
  go_wp2_with fail
  refine HB.out.mono ?_
  rintro e w1 ⟨rfl, r1, o1⟩
  have G := Lib.hid (H.out.moved o1 r1)
  clear r1 o1 HB c0
  go_wp2
  go_ret2
  exact ⟨by simp, G.out⟩

/-- What is made of a block's bytes: what is wrong, the place, the bytes. -/
def didW (w : World) (g r : Nat) (s : ByteArray) (v : Value) (c : List UInt8) (pre : Nat) (R : Int × Nat × List UInt8) (e : Ending) (w' : World) : Prop :=
  e = .returned (.int .i64 R.1) ∧ ∃ v' a', wk w' g r s a' v' (c ++ R.2.2) pre ∧ a' ≤ 8 * s.size ∧ (R.1 = 0 → a' = R.2.1) ∧ Only (ow g r v) w w' ∧ lat w v v'
def stoW (N M a q : Nat) : Int × Nat × List UInt8 := if (M - a) / 8 < q then (2, a + 8 * ((M - a) / 8), stoB N a ((M - a) / 8)) else (0, a + 8 * q, stoB N a q)
theorem stoB_snoc (N a i : Nat) : stoB N a i ++ [UInt8.ofNat (peekN N (a + 8 * i) 8)] = stoB N a (i + 1) := by simp [stoB, List.range_succ]
theorem ow.trans {w w1 w2 : World} {g r : Nat} {v v1 v2 : Value} (o : Only (ow g r v) w w1) (l : lat w v v1) (o2 : Only (ow g r v1) w1 w2) (l2 : lat w1 v1 v2) : Only (ow g r v) w w2 ∧ lat w v v2 := by
  refine ⟨o.then o2 (fun i hi hlt => ?_), fun i hi => ?_⟩
  · rcases hi with e | e | e
    · exact .inl e
    · exact .inr (.inl e)
    · rcases l i e with k | k
      · exact .inr (.inr k)
      · omega
  · rcases l2 i hi with k | k
    · exact l i k
    · exact .inr (Nat.le_trans o.size k)

set_option maxHeartbeats 2000000 in
set_option maxRecDepth 100000 in
theorem rstored_any {z : Int} {q : Nat} (hz : z = (q : Int)) (hq : q ≤ 65535) (h : wk w g r s a v c pre) (hs : s.size ≤ 281474976710656) (ha : a ≤ 8 * s.size) (hc : c.length + q ≤ 2000000) :
    Calls Tryz.prog 33 #[.pointer (some ⟨g, 0, none⟩), .int .i64 z] w (didW w g r s v c pre (stoW (num s.data.toList) (8 * s.size) a q)) := by
  subst hz
  have H := Lib.hid h
  have HS := Lib.hid hs
  have HC := Lib.hid hc
  obtain ⟨N, hN⟩ : ∃ N, N = num s.data.toList := ⟨_, rfl⟩
  obtain ⟨M, hM⟩ : ∃ M, M = 8 * s.size := ⟨_, rfl⟩
  rw [← hN, ← hM]
  rw [← hM] at ha
  have HN := Lib.hid hN
  have HM := Lib.hid hM
  have HA := Lib.hid ha
  clear h hs hc hN hM ha
  go_enter Tryz.func33, Tryz.ntmps33
  go_wp2
  go_loopw [5] (fun s5 wr => ∃ (i : Nat) (v1 : Value), s5 = .int .i64 (i : Int) ∧ i ≤ q ∧ Hid (a + 8 * i ≤ M) ∧ Hid (wk wr g r s (a + 8 * i) v1 (c ++ stoB N a i) pre) ∧ Hid (Only (ow g r v) w wr ∧ lat w v v1)) (fun s5 _ => q - (intOf s5).toNat)
  case atStart => exact ⟨0, v, rfl, Nat.zero_le _, Lib.hid HA.out, Lib.hid (by have := H.out; simpa [stoB] using this), Lib.hid ⟨Only.refl _ _, lat.refl _ _⟩⟩
  case round =>
    obtain ⟨i, v1, rfl, hi, HI, W1, O1⟩ := hrel
    by_cases hiq : i = q
    · subst hiq
      have hlt : ¬ ((i : Int) < (i : Int)) := by omega
      go_wp2
      go_ret
      have e : stoW N M a i = (0, a + 8 * i, stoB N a i) := by unfold stoW; rw [if_neg (by have := HI.out; omega)]
      rw [e]
      exact ⟨rfl, v1, _, W1.out, by rw [← HM.out]; exact HI.out, fun _ => rfl, O1.out⟩
    · have hlt : ((i : Int) < (q : Int)) := by omega
      have HIQ := Lib.hid hiq
      clear hiq
      have c0 : wr.cell? ⟨g, 0, none⟩ = some (.pointer (some ⟨r, 0, none⟩)) := W1.out.1.cell 0
      by_cases hl : M - (a + 8 * i) < 8
      · have HL := Lib.hid hl
        clear hl
        have HB := Lib.hid (rBits_short (z := 8) (m := 8) rfl (by omega) W1.out.2.1 HS.out (by rw [← HM.out]; exact HI.out) (by rw [← HM.out]; exact HL.out))
        go_wp2_with fail
        refine HB.out.mono ?_
        rintro e w2 ⟨rfl, r2, o2⟩
        have G := Lib.hid (W1.out.moved o2 r2)
        clear r2 o2 HB c0
        go_wp2
        go_ret
        have e1 : (M - a) / 8 = i := by have := HI.out; have := HL.out; omega
        have e : stoW N M a q = (2, a + 8 * i, stoB N a i) := by unfold stoW; rw [e1, if_pos (by have := HIQ.out; omega)]
        rw [e]
        exact ⟨rfl, v1, _, G.out.1, by rw [← HM.out]; exact HI.out, fun _ => rfl, ow.trans O1.out.1 O1.out.2 G.out.2 (lat.refl _ _)⟩
      · have HL : Hid (a + 8 * (i + 1) ≤ M) := Lib.hid (by omega)
        clear hl
        have HB := Lib.hid (rBits_has (z := 8) (m := 8) rfl (by omega) W1.out.2.1 HS.out (by rw [← HM.out]; have := HL.out; omega))
        have hx := peekN_lt (num s.data.toList) (a + 8 * i) 8
        obtain ⟨x, hxe⟩ : ∃ x, x = peekN (num s.data.toList) (a + 8 * i) 8 := ⟨_, rfl⟩
        rw [← hxe] at HB hx
        have hx : x < 256 := hx
        obtain ⟨y, hy⟩ : ∃ y, y = UInt8.ofNat x := ⟨_, rfl⟩
        have HY : Hid ((x : Int) = (y.toNat : Int)) := Lib.hid (by rw [hy, UInt8.toNat_ofNat_of_lt' (by omega)])
        have HS1 : Hid (stoB N a i ++ [y] = stoB N a (i + 1)) := Lib.hid (by rw [hy, hxe, ← HN.out]; exact stoB_snoc N a i)
        clear hxe hy
        go_wp2_with fail
        refine HB.out.mono ?_
        rintro e w2 ⟨rfl, r2, o2⟩
        have G := Lib.hid (W1.out.moved o2 r2)
        clear r2 o2 HB c0
        go_wp2_with fail
        refine (rput_any y HY.out G.out.1 (by rw [List.length_append, stoB_length]; have := HC.out; omega)).mono ?_
        rintro e w3 ⟨rfl, v3, W3, o3, l3⟩
        have G3 := Lib.hid (ow.trans (ow.trans O1.out.1 O1.out.2 G.out.2 (lat.refl _ _)).1 (ow.trans O1.out.1 O1.out.2 G.out.2 (lat.refl _ _)).2 o3 l3)
        rw [List.append_assoc, HS1.out] at W3
        have W3 := Lib.hid W3
        clear o3 l3
        go_wp2
        go_roundw
        case measure => simp [intOf]; omega
        case rel => exact ⟨i + 1, v3, rfl, by omega, HL, W3, G3⟩
end
end Go.Proofs.YtnkninjdpgpkmaaGreatDoor.Irb
namespace Go.Proofs.YtnkninjdpgpkmaaGreatDoor.Irc
open Go.RowKit Go.Proofs.YtnkninjdpgpkmaaGreatDoor.Vm Go.Proofs.YtnkninjdpgpkmaaGreatDoor.Vo Go.Proofs.YtnkninjdpgpkmaaGreatDoor.Bm Go.Proofs.YtnkninjdpgpkmaaGreatDoor.Bw Go.Proofs.YtnkninjdpgpkmaaGreatDoor.Bp Go.Proofs.YtnkninjdpgpkmaaGreatDoor.Bs Go.Proofs.YtnkninjdpgpkmaaGreatDoor.Bq Go.Proofs.YtnkninjdpgpkmaaGreatDoor.Be Go.Proofs.YtnkninjdpgpkmaaGreatDoor.Na Go.Proofs.YtnkninjdpgpkmaaGreatDoor.Ne Go.Proofs.YtnkninjdpgpkmaaGreatDoor.Nm Go.Proofs.YtnkninjdpgpkmaaGreatDoor.Wr Go.Proofs.YtnkninjdpgpkmaaGreatDoor.Wc Go.Proofs.YtnkninjdpgpkmaaGreatDoor.Ww Go.Proofs.YtnkninjdpgpkmaaGreatDoor.Pm Go.Proofs.YtnkninjdpgpkmaaGreatDoor.Pr Go.Proofs.YtnkninjdpgpkmaaGreatDoor.Kd Go.Proofs.YtnkninjdpgpkmaaGreatDoor.Ke Go.Proofs.YtnkninjdpgpkmaaGreatDoor.Km Go.Proofs.YtnkninjdpgpkmaaGreatDoor.Sm Go.Proofs.YtnkninjdpgpkmaaGreatDoor.Sp Go.Proofs.YtnkninjdpgpkmaaGreatDoor.Sr Go.Proofs.YtnkninjdpgpkmaaGreatDoor.Me Go.Proofs.YtnkninjdpgpkmaaGreatDoor.Fm Go.Proofs.YtnkninjdpgpkmaaGreatDoor.Ga Go.Proofs.YtnkninjdpgpkmaaGreatDoor.Im Go.Proofs.YtnkninjdpgpkmaaGreatDoor.Ia Go.Proofs.YtnkninjdpgpkmaaGreatDoor.Ie Go.Proofs.YtnkninjdpgpkmaaGreatDoor.Ih Go.Proofs.YtnkninjdpgpkmaaGreatDoor.Ira Go.Proofs.YtnkninjdpgpkmaaGreatDoor.Irb

/-- What comes of what stands there. -/
def syR (c : List UInt8) : Sy → Int × Nat × List UInt8
  | .err e => (e, 0, [])
  | .fin b => (0, b, [])
  | .byte b x => (0, b, [UInt8.ofNat x])
  | .copy b n d => (0, b, Wm.out c d n)
section
variable {w w' : World} {g r : Nat} {s : ByteArray} {a : Nat} {v : Value} {c : List UInt8} {pre : Nat}
/-- A list of lengths is there as long as just the work's blocks change. -/
theorem lst_ow {u : Value} {l : List Nat} (h : lst w u l) (k : wk w g r s a v c pre) (o : Only (ow g r v) w w') : lst w' u l := Ko.ints.only h o (fun i hi hS => by
  rcases h.2 with ⟨rfl, _⟩ | ⟨b, cap, cur, rfl, _, hb, _⟩
  · cases hi
  · obtain rfl : b = i := Option.some.inj hi
    rcases hS with rfl | rfl | hv
    · exact Blk.apart (show Blk w b 3 cur from hb) k.1 (by decide) rfl
    · exact Blk.apart (show Blk w b 3 cur from hb) k.2.1 (by decide) rfl
    · exact k.2.2.1.apart (show Blk w b 3 cur from hb) (by decide) b hv rfl)
theorem rgot_no {A : Option Addr} {n cap : Nat} {l : List Nat} (hl : code l) (hr : lst w (.slice A n cap) l) (h : wk w g r s a v c pre) (hs : s.size ≤ 281474976710656) (ha : a ≤ 8 * s.size) (hg : got l (num s.data.toList) a (8 * s.size - a) = none) :
    Calls Tryz.prog 67 #[.pointer (some ⟨r, 0, none⟩), .slice A n cap] w fun e w' => e = .returned (.tuple #[.int .i64 0, .int .i64 (gotE l (num s.data.toList) a (8 * s.size - a))]) ∧ wk w' g r s a v c pre ∧ Only (ow g r v) w w' := by
  obtain ⟨e, hw⟩ := hr.row
  subst e
  refine (rRead_any (code_err hl) (Lib.hid hw) (Lib.hid h.2.1) hs ha).mono ?_
  rintro e w' ⟨rfl, r1, o1⟩
  rw [L_ix] at r1 ⊢
  have e1 : gotS l (num s.data.toList) a (8 * s.size - a) = 0 := by unfold gotS; rw [hg]
  have e2 : gotA l (num s.data.toList) a (8 * s.size - a) = a := by unfold gotA; rw [hg]
  rw [e2] at r1
  exact ⟨by rw [e1], h.moved o1 r1⟩
theorem rgot_yes {A : Option Addr} {n cap j : Nat} {l : List Nat} (hl : code l) (hr : lst w (.slice A n cap) l) (h : wk w g r s a v c pre) (hs : s.size ≤ 281474976710656) (ha : a ≤ 8 * s.size) (hg : got l (num s.data.toList) a (8 * s.size - a) = some j) :
    Calls Tryz.prog 67 #[.pointer (some ⟨r, 0, none⟩), .slice A n cap] w fun e w' => e = .returned (.tuple #[.int .i64 (j : Int), .int .i64 0]) ∧ wk w' g r s (a + nth l j) v c pre ∧ Only (ow g r v) w w' := by
  obtain ⟨e, hw⟩ := hr.row
  subst e
  refine (rRead_any (code_err hl) (Lib.hid hw) (Lib.hid h.2.1) hs ha).mono ?_
  rintro e w' ⟨rfl, r1, o1⟩
  rw [L_ix] at r1 ⊢
  have e1 : gotS l (num s.data.toList) a (8 * s.size - a) = (j : Int) := by unfold gotS; rw [hg]
  have e2 : gotA l (num s.data.toList) a (8 * s.size - a) = a + nth l j := by unfold gotA; rw [hg]
  have e3 : gotE l (num s.data.toList) a (8 * s.size - a) = 0 := by unfold gotE; rw [hg]
  rw [e2] at r1
  exact ⟨by rw [e1, e3], h.moved o1 r1⟩
theorem didW.err {e : Int} {w2 : World} {a2 p : Nat} {x : List UInt8} (hx : x = []) (h : wk w2 g r s a2 v c pre) (o : Only (ow g r v) w w2) (ha : a2 ≤ 8 * s.size) (he : e ≠ 0) : didW w g r s v c pre (e, p, x) (.returned (.int .i64 e)) w2 := by
  subst hx
  exact ⟨rfl, v, a2, by rw [List.append_nil]; exact h, ha, fun h => absurd h he, o, lat.refl _ _⟩

set_option maxHeartbeats 4000000 in
set_option maxRecDepth 100000 in
theorem rcopied_any {A : Option Addr} {dn cap : Nat} {Di : List Nat} {z : Int} {i : Nat} (hz : z = (i : Int)) (h : wk w g r s a v c pre) (hr : lst w (.slice A dn cap) Di) (hD : code Di) (hi : 256 < i) (hi2 : i ≤ 1000) (hs : s.size ≤ 281474976710656) (ha : a ≤ 8 * s.size) (hc : c.length ≤ 1999000) :
    Calls Tryz.prog 68 #[.pointer (some ⟨g, 0, none⟩), .int .i64 z, .slice A dn cap] w (didW w g r s v c pre (syR c (copM Di (num s.data.toList) (8 * s.size) a i c.length))) := by
  subst hz
  have H := Lib.hid h
  have HR := Lib.hid hr
  have HD := Lib.hid hD
  have HS := Lib.hid hs
  have HC := Lib.hid hc
  obtain ⟨len, hlen⟩ : ∃ len, len = c.length := ⟨_, rfl⟩
  rw [← hlen]
  have HLN := Lib.hid hlen
  obtain ⟨N, hN⟩ : ∃ N, N = num s.data.toList := ⟨_, rfl⟩
  obtain ⟨M, hM⟩ : ∃ M, M = 8 * s.size := ⟨_, rfl⟩
  rw [← hN, ← hM]
  rw [← hM] at ha
  have HN := Lib.hid hN
  have HM := Lib.hid hM
  have HA := Lib.hid ha
  clear hlen hN hM h hr hD hs hc ha
  rcases (show 285 < i ∨ i ≤ 285 by omega) with h1 | h1
  · have HL := Lib.hid (rLength_any (z := (i : Int)) (by omega) (by omega) w)
    rw [lenA_out (.inr (by omega))] at HL
    have HY : Hid (copM Di N M a i len = .err 9) := Lib.hid (by unfold copM; rw [if_pos h1])
    go_enter Tryz.func68, Tryz.ntmps68
    go_wp2_with fail
    refine HL.out.mono ?_
    rintro e w1 ⟨rfl, rfl⟩
    go_wp2
    go_ret
    rw [HY.out]
    exact didW.err rfl H.out (Only.refl _ _) (by rw [← HM.out]; exact HA.out) (by decide)
  · obtain ⟨q, hq⟩ : ∃ q, i = q + 257 := ⟨i - 257, by omega⟩
    have hq28 : q ≤ 28 := by omega
    have hz : (i : Int) - 257 = (q : Int) := by omega
    have hq' : i - 257 = q := by omega
    have HL := rLength_any (z := (i : Int)) (by omega) (by omega) w
    rw [lenA_in hz hq28] at HL
    have hlb := lb_le hq28
    have hlB := lB_le q hq28
    have hY0 : ∀ len, copM Di N M a i len = if M - a < lb q then .err 2 else disM Di N M (a + lb q) (lB q + peekN N a (lb q)) len := fun len => by unfold copM; rw [if_neg (by omega), hq']
    have h3 := lB_sum hq28 (peekN_lt N a (lb q))
    obtain ⟨B0, hB0⟩ : ∃ x, x = lB q := ⟨_, rfl⟩
    obtain ⟨b0, hb0⟩ : ∃ x, x = lb q := ⟨_, rfl⟩
    rw [← hB0, ← hb0] at HL h3
    rw [← hB0] at hlB
    rw [← hb0] at hlb
    simp only [← hB0, ← hb0] at hY0
    have HL := Lib.hid HL
    have HY0 := Lib.hid hY0
    have H3 := Lib.hid h3
    clear hz hq' hq hq28 hB0 hb0 hY0 h3
    rcases (show M - a < b0 ∨ a + b0 ≤ M by have := HA.out; omega) with h2 | h2
    · have HY : Hid (copM Di N M a i len = .err 2) := Lib.hid (by rw [HY0.out, if_pos h2])
      have HF := Lib.hid (rfurther_short (z := (b0 : Int)) (y := (B0 : Int)) rfl rfl (by omega) (by omega) H.out HS.out (by rw [← HM.out]; exact HA.out) (by rw [← HM.out]; exact h2))
      clear h2
      go_enter Tryz.func68, Tryz.ntmps68
      go_wp2_with fail
      refine HL.out.mono ?_
      rintro e w1 ⟨rfl, rfl⟩
      go_wp2_with fail
      refine HF.out.mono ?_
      rintro e w2 ⟨rfl, W2, o2⟩
      go_wp2
      go_ret
      rw [HY.out]
      exact didW.err rfl W2 o2 (by rw [← HM.out]; exact HA.out) (by decide)
    · have HF := rfurther_has (z := (b0 : Int)) (y := (B0 : Int)) rfl rfl (by omega) (by omega) H.out HS.out (by rw [← HM.out]; exact h2)
      have hY : copM Di N M a i len = disM Di N M (a + b0) (B0 + peekN N a b0) len := by rw [HY0.out, if_neg (by omega)]
      have h3 := H3.out
      rw [← HN.out] at HF
      obtain ⟨n, hn⟩ : ∃ n, n = B0 + peekN N a b0 := ⟨_, rfl⟩
      obtain ⟨a1, ha1⟩ : ∃ a1, a1 = a + b0 := ⟨_, rfl⟩
      rw [← hn, ← ha1] at HF hY
      rw [← hn] at h3
      rw [← ha1] at h2
      have H2 := Lib.hid h2
      have H3 := Lib.hid h3
      have HF := Lib.hid HF
      rw [hY]
      clear hY hn ha1 h2 h3 HY0
      go_enter Tryz.func68, Tryz.ntmps68
      go_wp2_with fail
      refine HL.out.mono ?_
      rintro e w1 ⟨rfl, rfl⟩
      go_wp2_with fail
      refine HF.out.mono ?_
      rintro e w2 ⟨rfl, W2, o2⟩
      have W2 := Lib.hid W2
      have O2 := Lib.hid o2
      have R2 := Lib.hid (lst_ow HR.out H.out o2)
      have c0 : w2.cell? ⟨g, 0, none⟩ = some (.pointer (some ⟨r, 0, none⟩)) := W2.out.1.cell 0
      clear o2 HL HF
      rcases hg : got Di N a1 (M - a1) with _ | j
      · have HG := Lib.hid (rgot_no HD.out R2.out W2.out HS.out (by rw [← HM.out]; exact H2.out) (by rw [← HN.out, ← HM.out]; exact hg))
        rw [← HN.out, ← HM.out] at HG
        have hE := gotE_pos N a1 (M - a1) hg
        have HY : Hid (disM Di N M a1 n len = .err (gotE Di N a1 (M - a1))) := Lib.hid (dis_none hg)
        obtain ⟨E, hEE⟩ : ∃ E, E = gotE Di N a1 (M - a1) := ⟨_, rfl⟩
        rw [← hEE] at HG HY hE
        have hE' : (E != 0) = true := by simp [hE]
        have HE := Lib.hid hE
        clear hg hEE hE
        go_wp2_with fail
        refine HG.out.mono ?_
        rintro e w3 ⟨rfl, W3, o3⟩
        go_wp2
        go_ret
        rw [HY.out]
        exact didW.err rfl W3 (O2.out.trans o3) (by rw [← HM.out]; exact H2.out) HE.out
      · have HJ := Lib.hid (got_pos HD.out.h15 hg)
        have HG := rgot_yes HD.out R2.out W2.out HS.out (by rw [← HM.out]; exact H2.out) (by rw [← HN.out, ← HM.out]; exact hg)
        obtain ⟨a2, ha2⟩ : ∃ a2, a2 = a1 + nth Di j := ⟨_, rfl⟩
        rw [← ha2] at HG
        have HG := Lib.hid HG
        have HA2 := Lib.hid ha2
        have H22 : Hid (a2 ≤ M) := Lib.hid (by have := HJ.out; have := H2.out; omega)
        have HGG := Lib.hid hg
        have hj320 : j < 320 := by have := HJ.out.1; have := HD.out.len; omega
        clear hg ha2
        go_wp2_with fail
        refine HG.out.mono ?_
        rintro e w3 ⟨rfl, W3, o3⟩
        have W3 := Lib.hid W3
        have O3 := Lib.hid (O2.out.trans o3)
        clear o3 HG c0 O2 R2 W2
        rcases (show 29 < j ∨ j < 30 by omega) with hj | hj
        · have HL := Lib.hid (rDist_any (z := (j : Int)) (by omega) (by omega) w3)
          rw [disA_out (.inr (by omega))] at HL
          have HY : Hid (disM Di N M a1 n len = .err 9) := Lib.hid (dis_code HGG.out hj)
          go_wp2_with fail
          refine HL.out.mono ?_
          rintro e w4 ⟨rfl, rfl⟩
          go_wp2
          go_ret
          rw [HY.out]
          exact didW.err rfl W3.out O3.out (by rw [← HM.out]; exact H22.out) (by decide)
        · have HL := rDist_any (z := (j : Int)) (by omega) (by omega) w3
          rw [disA_in hj] at HL
          have hfb := fb2_le hj
          have hdB := dB_le j hj
          have h5 := dB_sum hj (peekN_lt N a2 (fb 2 j))
          have h4s : M - a2 < fb 2 j → disM Di N M a1 n len = .err 2 := fun h => dis_short HGG.out hj (by rw [← HA2.out]; exact h)
          have h4f : ¬ M - a2 < fb 2 j → len < dB j + peekN N a2 (fb 2 j) → disM Di N M a1 n len = .err 10 := fun h hd => dis_far HGG.out hj (by rw [← HA2.out]; exact h) (by rw [← HA2.out]; exact hd)
          have h4c : ¬ M - a2 < fb 2 j → ¬ len < dB j + peekN N a2 (fb 2 j) → disM Di N M a1 n len = .copy (a2 + fb 2 j) n (dB j + peekN N a2 (fb 2 j)) := fun h hd => by rw [HA2.out]; exact dis_copy HGG.out hj (by rw [← HA2.out]; exact h) (by rw [← HA2.out]; exact hd)
          obtain ⟨d0, hd0⟩ : ∃ x, x = dB j := ⟨_, rfl⟩
          obtain ⟨f0, hf0⟩ : ∃ x, x = fb 2 j := ⟨_, rfl⟩
          rw [← hd0, ← hf0] at HL h5 h4f h4c
          rw [← hf0] at h4s hfb
          rw [← hd0] at hdB
          have HL := Lib.hid HL
          have H5 := Lib.hid h5
          have H4f := Lib.hid h4f
          have H4c := Lib.hid h4c
          have H4s := Lib.hid h4s
          clear h5 h4s h4f h4c hd0 hf0 hj
          go_wp2_with fail
          refine HL.out.mono ?_
          rintro e w4 ⟨rfl, rfl⟩
          clear HL
          rcases (show M - a2 < f0 ∨ a2 + f0 ≤ M by have := H22.out; omega) with h4 | h4
          · have HF := Lib.hid (rfurther_short (z := (f0 : Int)) (y := (d0 : Int)) rfl rfl (by omega) (by omega) W3.out HS.out (by rw [← HM.out]; exact H22.out) (by rw [← HM.out]; exact h4))
            have HY := Lib.hid (H4s.out h4)
            clear h4
            go_wp2_with fail
            refine HF.out.mono ?_
            rintro e w5 ⟨rfl, W5, o5⟩
            go_wp2
            go_ret
            rw [HY.out]
            exact didW.err rfl W5 (O3.out.trans o5) (by rw [← HM.out]; exact H22.out) (by decide)
          · have HF := rfurther_has (z := (f0 : Int)) (y := (d0 : Int)) rfl rfl (by omega) (by omega) W3.out HS.out (by rw [← HM.out]; exact h4)
            rw [← HN.out] at HF
            have h5 := H5.out
            have h6 := H4f.out (by omega)
            have h7 := H4c.out (by omega)
            obtain ⟨D, hDe⟩ : ∃ D, D = d0 + peekN N a2 f0 := ⟨_, rfl⟩
            obtain ⟨a3, ha3⟩ : ∃ a3, a3 = a2 + f0 := ⟨_, rfl⟩
            rw [← hDe] at HF h5 h6 h7
            rw [← ha3] at HF h4 h7
            have HF := Lib.hid HF
            have H6 := Lib.hid h6
            have H7 := Lib.hid h7
            have H4 := Lib.hid h4
            clear h4 h6 h7 hDe ha3 H4f H4c H4s H5
            go_wp2_with fail
            refine HF.out.mono ?_
            rintro e w5 ⟨rfl, W5, o5⟩
            have W5 := Lib.hid W5
            have O5 := Lib.hid (O3.out.trans o5)
            clear HF o5 W3 O3
            obtain ⟨b, cp, rfl, _⟩ := W5.out.2.2.1.block
            rw [← HLN.out] at H W5
            have c1 : w5.cell? ⟨g, 1, none⟩ = some (.slice (some ⟨b, 0, none⟩) len cp) := W5.out.1.cell 1
            have hD2 : ¬ (32768 : Int) < (D : Int) := by omega
            by_cases hfar : len < D
            · have hgt : (len : Int) < (D : Int) := by omega
              have HY := Lib.hid (H6.out hfar)
              clear hfar
              go_wp2
              go_ret
              rw [HY.out]
              exact didW.err rfl (by rw [← HLN.out]; exact W5.out) O5.out (by rw [← HM.out]; exact H4.out) (by decide)
            · have hgt : ¬ (len : Int) < (D : Int) := by omega
              have HY := Lib.hid (H7.out hfar)
              have HFR := Lib.hid hfar
              have HN3 := Lib.hid H3.out
              go_wp2
              clear hgt hD2 hfar
              go_loopw [19] (fun s19 wr => ∃ (k : Nat) (v1 : Value), s19 = .int .i64 (k : Int) ∧ k ≤ n ∧ Hid (wk wr g r s a3 v1 (c ++ Wm.out c D k) pre) ∧ Hid (Only (ow g r (.slice (some ⟨b, 0, none⟩) len cp)) w wr ∧ lat w (.slice (some ⟨b, 0, none⟩) len cp) v1)) (fun s19 _ => n - (intOf s19).toNat)
              case atStart => exact ⟨0, _, rfl, Nat.zero_le _, Lib.hid (by have := W5.out; simpa [Wm.out, Wm.ext] using this), Lib.hid ⟨O5.out, lat.refl _ _⟩⟩
              case round =>
                obtain ⟨k, v1, rfl, hk, W6, O6⟩ := hrel
                clear c1
                by_cases hkn : k = n
                · have hlt : ¬ ((k : Int) < (n : Int)) := by omega
                  have HK := Lib.hid hkn
                  clear hkn
                  go_wp2
                  go_ret
                  rw [HY.out]
                  exact ⟨rfl, v1, a3, by have := W6.out; rw [HK.out] at this; exact this, by rw [← HM.out]; exact H4.out, fun _ => rfl, O6.out⟩
                · have hlt : ((k : Int) < (n : Int)) := by omega
                  have HK : Hid (k + 1 ≤ n) := Lib.hid (by omega)
                  have hk258 : k < 258 := by have := H3.out; omega
                  clear hkn
                  obtain ⟨b6, cp6, rfl, hcp6, hb6, _, hcell⟩ := W6.out.2.2.1.block
                  obtain ⟨X, hX⟩ : ∃ X, X = (c ++ Wm.out c D k).length := ⟨_, rfl⟩
                  have hX2 : X = len + k := by rw [hX, List.length_append, Wm.out_length, HLN.out]
                  have h3 := H3.out
                  have hlenb : len ≤ 1999000 := by rw [HLN.out]; exact HC.out
                  have hFR := HFR.out
                  obtain ⟨P, hP⟩ : ∃ P, P = X - D := ⟨_, rfl⟩
                  have hPX : P < X := by omega
                  have hsub : (X : Int) - (D : Int) = (P : Int) := by omega
                  rw [← hX] at hcell W6 hcp6
                  obtain ⟨x, hx⟩ : ∃ x, x = (c ++ Wm.out c D k).getD P 0 := ⟨_, rfl⟩
                  have cb : wr.cell? ⟨b6, P, none⟩ = some (.int .u8 (x.toNat : Int)) := by
                    rw [hcell P hPX, hx, List.getD_eq_getElem?_getD, List.getElem?_eq_getElem (by rw [← hX]; exact hPX)]; rfl
                  have HX1 : Hid (Wm.out c D k ++ [x] = Wm.out c D (k + 1)) := Lib.hid (by rw [Wm.out_next, Wm.ext_out, hx, hP, hX2, HLN.out])
                  have HXL : Hid ((c ++ Wm.out c D k).length ≤ 2000000) := Lib.hid (by rw [← hX]; omega)
                  have c1 : wr.cell? ⟨g, 1, none⟩ = some (.slice (some ⟨b6, 0, none⟩) X cp6) := W6.out.1.cell 1
                  have hPw : IntKind.i64.wrap (P : Int) = (P : Int) := by rw [IntKind.wrap_i64]; omega
                  have hPi : (P : Int) < (X : Int) := by omega
                  have hXb : (X : Int) ≤ 9000000 := by omega
                  have HW6 : Hid (wk wr g r s a3 (.slice (some ⟨b6, 0, none⟩) X cp6) (c ++ Wm.out c D k) pre) := Lib.hid W6.out
                  clear hX hX2 h3 hlenb hFR hP hcell hx W6
                  go_wp2_with fail
                  go_still_tail 14, (by kernel_rfl)
                  go_wp2_with fail
                  refine (rput_any x rfl (HW6.out.below ((Below.refl _ wr).drew)) HXL.out).mono ?_
                  rintro e w7 ⟨rfl, v7, W7, o7, l7⟩
                  have G7 := Lib.hid (ow.trans O6.out.1.drew O6.out.2 o7 l7)
                  rw [List.append_assoc, HX1.out] at W7
                  have W7 := Lib.hid W7
                  clear o7 l7 c1 cb
                  go_wp2
                  go_roundw
                  case measure => have := HK.out; simp [intOf]; omega
                  case rel => exact ⟨k + 1, v7, rfl, HK.out, W7, G7⟩
end
end Go.Proofs.YtnkninjdpgpkmaaGreatDoor.Irc
namespace Go.Proofs.YtnkninjdpgpkmaaGreatDoor.Ird
open Go.RowKit Go.Proofs.YtnkninjdpgpkmaaGreatDoor.Vm Go.Proofs.YtnkninjdpgpkmaaGreatDoor.Vo Go.Proofs.YtnkninjdpgpkmaaGreatDoor.Bm Go.Proofs.YtnkninjdpgpkmaaGreatDoor.Bw Go.Proofs.YtnkninjdpgpkmaaGreatDoor.Bp Go.Proofs.YtnkninjdpgpkmaaGreatDoor.Bs Go.Proofs.YtnkninjdpgpkmaaGreatDoor.Bq Go.Proofs.YtnkninjdpgpkmaaGreatDoor.Be Go.Proofs.YtnkninjdpgpkmaaGreatDoor.Na Go.Proofs.YtnkninjdpgpkmaaGreatDoor.Ne Go.Proofs.YtnkninjdpgpkmaaGreatDoor.Nm Go.Proofs.YtnkninjdpgpkmaaGreatDoor.Wr Go.Proofs.YtnkninjdpgpkmaaGreatDoor.Wc Go.Proofs.YtnkninjdpgpkmaaGreatDoor.Ww Go.Proofs.YtnkninjdpgpkmaaGreatDoor.Pm Go.Proofs.YtnkninjdpgpkmaaGreatDoor.Pr Go.Proofs.YtnkninjdpgpkmaaGreatDoor.Kc Go.Proofs.YtnkninjdpgpkmaaGreatDoor.Kd Go.Proofs.YtnkninjdpgpkmaaGreatDoor.Ke Go.Proofs.YtnkninjdpgpkmaaGreatDoor.Km Go.Proofs.YtnkninjdpgpkmaaGreatDoor.Sm Go.Proofs.YtnkninjdpgpkmaaGreatDoor.Sp Go.Proofs.YtnkninjdpgpkmaaGreatDoor.Sr Go.Proofs.YtnkninjdpgpkmaaGreatDoor.Me Go.Proofs.YtnkninjdpgpkmaaGreatDoor.Fm Go.Proofs.YtnkninjdpgpkmaaGreatDoor.Fa Go.Proofs.YtnkninjdpgpkmaaGreatDoor.Ga Go.Proofs.YtnkninjdpgpkmaaGreatDoor.Im Go.Proofs.YtnkninjdpgpkmaaGreatDoor.Ia Go.Proofs.YtnkninjdpgpkmaaGreatDoor.Ie Go.Proofs.YtnkninjdpgpkmaaGreatDoor.Ih Go.Proofs.YtnkninjdpgpkmaaGreatDoor.Ira Go.Proofs.YtnkninjdpgpkmaaGreatDoor.Irb Go.Proofs.YtnkninjdpgpkmaaGreatDoor.Irc

theorem cop_kind (Di : List Nat) (N M a i len : Nat) : (∃ e, copM Di N M a i len = .err e) ∨ ∃ b n d, copM Di N M a i len = .copy b n d := by
  unfold copM
  split
  · exact .inl ⟨_, rfl⟩
  · split
    · exact .inl ⟨_, rfl⟩
    · unfold disM
      split
      · exact .inl ⟨_, rfl⟩
      · split
        · exact .inl ⟨_, rfl⟩
        · split
          · exact .inl ⟨_, rfl⟩
          · split
            · exact .inl ⟨_, rfl⟩
            · exact .inr ⟨_, _, _, rfl⟩
section
variable {w w' : World} {g r : Nat} {s : ByteArray} {a : Nat} {v : Value} {c : List UInt8} {pre : Nat}
theorem blk_ow {y : Nat} {t : TypeId} {cs : Array Value} (h : Blk w y t cs) (k : wk w g r s a v c pre) (o : Only (ow g r v) w w') (h1 : t ≠ 73) (h2 : t ≠ 75) (h3 : 5 ≠ t) : Blk w' y t cs := h.only o (fun e => by
  rcases e with rfl | rfl | e
  · exact h.apart k.1 h1 rfl
  · exact h.apart k.2.1 h2 rfl
  · exact k.2.2.1.apart h h3 _ e rfl)

/-- The coded block's work, on its way: x has been made. -/
structure cway (w : World) (g r : Nat) (s : ByteArray) (v : Value) (c : List UInt8) (pre : Nat) (Li Di : List Nat) (N M a y : Nat) (vL vD : Value) (cs : Array Value) (a' : Nat) (v' : Value) (x : List UInt8) (u : World) : Prop where
  k : wk u g r s a' v' (c ++ x) pre
  le : a' ≤ M
  eq : codM Li Di N M a c = ((codM Li Di N M a' (c ++ x)).1, (codM Li Di N M a' (c ++ x)).2.1, x ++ (codM Li Di N M a' (c ++ x)).2.2)
  o : Only (ow g r v) w u
  l : lat w v v'
  b : Blk u y 77 cs
  l1 : lst u vL Li
  l2 : lst u vD Di
variable {Li Di : List Nat} {N M y : Nat} {vL vD : Value} {cs : Array Value} {a' : Nat} {v' : Value} {x : List UInt8} {u u2 : World}
theorem cway.on {a2 : Nat} {v2 : Value} {z : List UInt8} (h : cway w g r s v c pre Li Di N M a y vL vD cs a' v' x u) (k : wk u2 g r s a2 v2 (c ++ x ++ z) pre) (o : Only (ow g r v') u u2) (l : lat u v' v2) (hle : a2 ≤ M)
    (e : codM Li Di N M a' (c ++ x) = ((codM Li Di N M a2 (c ++ x ++ z)).1, (codM Li Di N M a2 (c ++ x ++ z)).2.1, z ++ (codM Li Di N M a2 (c ++ x ++ z)).2.2)) :
    cway w g r s v c pre Li Di N M a y vL vD cs a2 v2 (x ++ z) u2 :=
  ⟨by rw [← List.append_assoc]; exact k, hle, by rw [h.eq, e, ← List.append_assoc, ← List.append_assoc], (ow.trans h.o h.l o l).1, (ow.trans h.o h.l o l).2, blk_ow h.b h.k o (by decide) (by decide) (by decide), lst_ow h.l1 h.k o, lst_ow h.l2 h.k o⟩
theorem cway.done {a2 : Nat} {e : Int} {p : Nat} (h : cway w g r s v c pre Li Di N M a y vL vD cs a' v' x u) (hM : M = 8 * s.size) (k : wk u2 g r s a2 v' (c ++ x) pre) (o : Only (ow g r v') u u2) (h2 : a2 ≤ M) (he : codM Li Di N M a' (c ++ x) = (e, p, [])) (hp : e = 0 → a2 = p) :
    didW w g r s v c pre (codM Li Di N M a c) (.returned (.int .i64 e)) u2 := by
  rw [h.eq, he, List.append_nil]
  exact ⟨rfl, v', a2, k, by rw [← hM]; exact h2, hp, ow.trans h.o h.l o (lat.refl _ _)⟩

set_option maxHeartbeats 4000000 in
set_option maxRecDepth 100000 in
theorem rcoded_any {fb : Bool} {kd z : Int} {A1 A2 : Option Addr} {n1 c1 n2 c2 : Nat} (h : wk w g r s a v c pre) (l1 : lst w (.slice A1 n1 c1) Li) (l2 : lst w (.slice A2 n2 c2) Di) (hL : code Li) (hD : code Di) (hs : s.size ≤ 281474976710656) (ha : a ≤ 8 * s.size) (hc : c.length + 258 * (8 * s.size - a) ≤ 1999000) :
    Calls Tryz.prog 34 #[.pointer (some ⟨g, 0, none⟩), hv fb kd z (.slice A1 n1 c1) (.slice A2 n2 c2)] w (didW w g r s v c pre (codM Li Di (num s.data.toList) (8 * s.size) a c)) := by
  obtain ⟨N, hN⟩ : ∃ N, N = num s.data.toList := ⟨_, rfl⟩
  obtain ⟨M, hM⟩ : ∃ M, M = 8 * s.size := ⟨_, rfl⟩
  rw [← hN, ← hM]
  rw [← hM] at ha hc
  have HN := Lib.hid hN
  have HM := Lib.hid hM
  have HS := Lib.hid hs
  have HL := Lib.hid hL
  have HD := Lib.hid hD
  have HC := Lib.hid (show ∀ a' x, codM Li Di N M a c = ((codM Li Di N M a' (c ++ x)).1, (codM Li Di N M a' (c ++ x)).2.1, x ++ (codM Li Di N M a' (c ++ x)).2.2) → (c ++ x).length ≤ 1999000 from fun a' x e => by
    have f := (cod_facts (N := N) hL.h15 hD.h15 (M - a) a c (Nat.le_refl _) ha).1
    rw [e] at f
    simp only [List.length_append] at f ⊢
    omega)
  obtain ⟨w1, hw1⟩ : ∃ w1, w1 = w.alloc (.cells #[.bool fb, .int .i64 kd, .int .i64 z, .slice A1 n1 c1, .slice A2 n2 c2] 77) := ⟨_, rfl⟩
  have b1 : Below w.heap.size w w1 := by rw [hw1]; exact (Below.refl _ w).alloc (Nat.le_refl _) _
  have W1 : Hid (cway w g r s v c pre Li Di N M a w.heap.size (.slice A1 n1 c1) (.slice A2 n2 c2) #[.bool fb, .int .i64 kd, .int .i64 z, .slice A1 n1 c1, .slice A2 n2 c2] a v [] w1) := Lib.hid ⟨by rw [List.append_nil]; exact h.below b1, ha, by rw [List.append_nil, List.nil_append], Only.of_below b1, lat.refl _ _, by rw [hw1]; exact Blk.fresh _ _ _, l1.below b1, l2.below b1⟩
  clear hN hM hs hL hD b1 h l1 l2 ha hc
  unfold hv
  go_enter Tryz.func34, Tryz.ntmps34
  go_wp2_with fail
  rw [← hw1]
  clear hw1
  go_loopg [] (M - a) (fun gk wr => ∃ (a' : Nat) (v' : Value) (x : List UInt8), Hid (gk = M - a') ∧ Hid (cway w g r s v c pre Li Di N M a w.heap.size (.slice A1 n1 c1) (.slice A2 n2 c2) #[.bool fb, .int .i64 kd, .int .i64 z, .slice A1 n1 c1, .slice A2 n2 c2] a' v' x wr))
  case atStart => exact ⟨a, v, [], Lib.hid rfl, W1⟩
  case round =>
    obtain ⟨a', v', x, HG, WW⟩ := hrel
    clear W1
    have hB : Below wr.heap.size wr wr.drew := (Below.refl _ wr).drew
    have d0 : wr.cell? ⟨g, 0, none⟩ = some (.pointer (some ⟨r, 0, none⟩)) := WW.out.k.1.cell 0
    have d3 : wr.cell? ⟨w.heap.size, 3, none⟩ = some (.slice A1 n1 c1) := WW.out.b.cell 3
    have HK : Hid (wk wr.drew g r s a' v' (c ++ x) pre) := Lib.hid (WW.out.k.below hB)
    have HL1 : Hid (lst wr.drew (.slice A1 n1 c1) Li) := Lib.hid (WW.out.l1.below hB)
    have HLC := Lib.hid (HC.out a' x WW.out.eq)
    have HOD : Hid (∀ u, Only (ow g r v') wr.drew u → Only (ow g r v') wr u) := Lib.hid (fun u o => (Only.of_below hB).trans o)
    clear hB
    rcases hg : got Li N a' (M - a') with _ | i
    · have HR := Lib.hid (rgot_no HL.out HL1.out HK.out HS.out (by rw [← HM.out]; exact WW.out.le) (by rw [← HN.out, ← HM.out]; exact hg))
      rw [← HN.out, ← HM.out] at HR
      have hE := gotE_pos N a' (M - a') hg
      have HY : Hid (codM Li Di N M a' (c ++ x) = (gotE Li N a' (M - a'), a', [])) := Lib.hid (cod_err (sym_none hg))
      obtain ⟨E, hEE⟩ : ∃ E, E = gotE Li N a' (M - a') := ⟨_, rfl⟩
      rw [← hEE] at HR HY hE
      have hE' : (E != 0) = true := by simp [hE]
      have HE := Lib.hid hE
      clear hg hEE hE
      go_wp2_with fail
      go_region_held3 (fun u => u.cell? ⟨g, 0, none⟩ = some (.pointer (some ⟨r, 0, none⟩)) ∧ u.cell? ⟨w.heap.size, 3, none⟩ = some (.slice A1 n1 c1))
        (first | exact ⟨d0, d3⟩ | assumption)
        (first | (go_at_call 67; refine HR.out.mono ?_; rintro e w2 ⟨rfl, k2, o2⟩; have K2 := Lib.hid k2; have O2 := Lib.hid o2; have p2 : w2.cell? ⟨g, 0, none⟩ = some (.pointer (some ⟨r, 0, none⟩)) ∧ w2.cell? ⟨w.heap.size, 3, none⟩ = some (.slice A1 n1 c1) := ⟨k2.1.cell 0, (blk_ow WW.out.b WW.out.k (HOD.out _ o2) (by decide) (by decide) (by decide)).cell 3⟩))
      go_wp2
      go_ret
      exact WW.out.done HM.out K2.out (HOD.out _ O2.out) WW.out.le HY.out (fun e => absurd e HE.out)
    · have hp := got_pos HL.out.h15 hg
      have HR := rgot_yes HL.out HL1.out HK.out HS.out (by rw [← HM.out]; exact WW.out.le) (by rw [← HN.out, ← HM.out]; exact hg)
      have hi320 : i < 320 := by have := HL.out.len; omega
      obtain ⟨a1, ha1⟩ : ∃ a1, a1 = a' + nth Li i := ⟨_, rfl⟩
      rw [← ha1] at HR
      have HR := Lib.hid HR
      have HA1 : Hid (a' < a1 ∧ a1 ≤ M) := Lib.hid (by have := WW.out.le; omega)
      have HGG := Lib.hid hg
      have HAA := Lib.hid ha1
      clear hg hp ha1
      go_wp2_with fail
      go_region_held3 (fun u => u.cell? ⟨g, 0, none⟩ = some (.pointer (some ⟨r, 0, none⟩)) ∧ u.cell? ⟨w.heap.size, 3, none⟩ = some (.slice A1 n1 c1))
        (first | exact ⟨d0, d3⟩ | assumption)
        (first | (go_at_call 67; refine HR.out.mono ?_; rintro e w2 ⟨rfl, k2, o2⟩; have K2 := Lib.hid k2; have O2 := Lib.hid o2; have p2 : w2.cell? ⟨g, 0, none⟩ = some (.pointer (some ⟨r, 0, none⟩)) ∧ w2.cell? ⟨w.heap.size, 3, none⟩ = some (.slice A1 n1 c1) := ⟨k2.1.cell 0, (blk_ow WW.out.b WW.out.k (HOD.out _ o2) (by decide) (by decide) (by decide)).cell 3⟩))
      have O2' := Lib.hid (HOD.out _ O2.out)
      have hL2 := lst_ow WW.out.l2 WW.out.k O2'.out
      have HL2 := Lib.hid hL2
      have d4 : w2.cell? ⟨w.heap.size, 4, none⟩ = some (.slice A2 n2 c2) := (blk_ow WW.out.b WW.out.k O2'.out (by decide) (by decide) (by decide)).cell 4
      clear hL2 d0 d3 k2 o2 p2 HR O2 HOD HK HL1
      rcases (show i = 256 ∨ i < 256 ∨ 256 < i by omega) with hi | hi | hi
      · have HY : Hid (codM Li Di N M a' (c ++ x) = (0, a1, [])) := Lib.hid (by rw [HAA.out]; exact cod_fin (sym_fin HGG.out hi))
        have hi1 : (i : Int) = 256 := by omega
        clear hi
        go_wp2
        go_ret
        exact WW.out.done HM.out K2.out O2'.out HA1.out.2 HY.out (fun _ => rfl)
      · have hi1 : ((i : Int) == 256) = false := by simp; omega
        obtain ⟨yb, hyb⟩ : ∃ yb, yb = UInt8.ofNat i := ⟨_, rfl⟩
        have HYB : Hid ((i : Int) = (yb.toNat : Int)) := Lib.hid (by rw [hyb, UInt8.toNat_ofNat_of_lt' (by omega)])
        have hs1 := sym_byte (Di := Di) (len := (c ++ x).length) HGG.out hi
        rw [← HAA.out] at hs1
        have HY := cod_byte hs1 HA1.out
        rw [← hyb] at HY
        have HY := Lib.hid HY
        have HP := Lib.hid (rput_any yb HYB.out K2.out (by have := HLC.out; omega))
        clear hs1 hyb
        go_wp2_with fail
        refine HP.out.mono ?_
        rintro e w3 ⟨rfl, v3, k3, o3, l3⟩
        have G3 := Lib.hid (WW.out.on k3 (ow.trans O2'.out (lat.refl _ _) o3 l3).1 (ow.trans O2'.out (lat.refl _ _) o3 l3).2 HA1.out.2 HY.out)
        clear k3 o3 l3
        go_wp2
        go_roundg (M - a1)
        case measure => have := HG.out; have := HA1.out; omega
        case rel => exact ⟨a1, v3, x ++ [yb], Lib.hid rfl, G3⟩
      · have hi1 : ((i : Int) == 256) = false := by simp; omega
        have hi2 : ¬ ((i : Int) < 256) := by omega
        have hcp := rcopied_any (z := (i : Int)) rfl K2.out HL2.out HD.out hi (by omega) HS.out (by rw [← HM.out]; exact HA1.out.2) HLC.out
        rw [← HN.out, ← HM.out] at hcp
        have hsc := sym_cop (Di := Di) (len := (c ++ x).length) HGG.out hi
        rw [← HAA.out] at hsc
        have hok := sym_ok (N := N) (M := M) (a := a') (len := (c ++ x).length) HL.out.h15 HD.out.h15 WW.out.le
        rcases cop_kind Di N M a1 i (c ++ x).length with ⟨E, ek⟩ | ⟨bb, nn, dd, ek⟩
        · rw [ek] at hcp hsc
          rw [hsc] at hok
          have HE : Hid (E ≠ 0) := Lib.hid hok
          have hE' : (E != 0) = true := by simp [HE.out]
          have HY := Lib.hid (cod_err hsc)
          have HCP := Lib.hid (hcp.mono (fun e w' h => show e = .returned (.int .i64 E) ∧ ∃ v2 a2, wk w' g r s a2 v2 (c ++ x) pre ∧ a2 ≤ 8 * s.size ∧ Only (ow g r v') w2 w' ∧ lat w2 v' v2 from by
            obtain ⟨e1, v2, a2, k, h2, _, o, l⟩ := h
            exact ⟨e1, v2, a2, by simpa [syR] using k, h2, o, l⟩))
          clear hcp hsc hok ek hi
          go_wp2_with fail
          refine HCP.out.mono ?_
          rintro e w3 ⟨rfl, v3, a3, k3, h3, o3, l3⟩
          have K3 := Lib.hid k3
          have H3 := Lib.hid h3
          have O3 := Lib.hid (ow.trans O2'.out (lat.refl _ _) o3 l3)
          clear k3 h3 o3 l3
          go_wp2
          go_ret
          have e9 := HY.out
          refine ⟨by (rw [WW.out.eq, e9]; rfl), v3, a3, ?_, H3.out, ?_, ow.trans WW.out.o WW.out.l O3.out.1 O3.out.2⟩
          · rw [WW.out.eq, e9, List.append_nil]; exact K3.out
          · rw [WW.out.eq, e9]
            exact fun e => absurd e HE.out
        · rw [ek] at hcp hsc
          rw [hsc] at hok
          have HB : Hid (a' < bb ∧ bb ≤ M) := Lib.hid ⟨hok.1, hok.2.1⟩
          have HY := Lib.hid (cod_copy hsc HB.out)
          have HCP := Lib.hid (hcp.mono (fun e w' h => show e = .returned (.int .i64 0) ∧ ∃ v2, wk w' g r s bb v2 (c ++ x ++ Wm.out (c ++ x) dd nn) pre ∧ Only (ow g r v') w2 w' ∧ lat w2 v' v2 from by
            obtain ⟨e1, v2, a2, k, h2, e2, o, l⟩ := h
            obtain rfl : a2 = bb := e2 rfl
            exact ⟨e1, v2, k, o, l⟩))
          clear hcp hsc hok ek hi
          go_wp2_with fail
          refine HCP.out.mono ?_
          rintro e w3 ⟨rfl, v3, k3, o3, l3⟩
          have G3 := Lib.hid (WW.out.on k3 (ow.trans O2'.out (lat.refl _ _) o3 l3).1 (ow.trans O2'.out (lat.refl _ _) o3 l3).2 HB.out.2 HY.out)
          clear k3 o3 l3
          go_wp2
          go_roundg (M - bb)
          case measure => have := HG.out; have := HB.out; omega
          case rel => exact ⟨bb, v3, x ++ Wm.out (c ++ x) dd nn, Lib.hid rfl, G3⟩
end
end Go.Proofs.YtnkninjdpgpkmaaGreatDoor.Ird
namespace Go.Proofs.YtnkninjdpgpkmaaGreatDoor.Ire
open Go.RowKit Go.Proofs.YtnkninjdpgpkmaaGreatDoor.Vm Go.Proofs.YtnkninjdpgpkmaaGreatDoor.Vo Go.Proofs.YtnkninjdpgpkmaaGreatDoor.Bm Go.Proofs.YtnkninjdpgpkmaaGreatDoor.Bw Go.Proofs.YtnkninjdpgpkmaaGreatDoor.Bp Go.Proofs.YtnkninjdpgpkmaaGreatDoor.Bs Go.Proofs.YtnkninjdpgpkmaaGreatDoor.Bq Go.Proofs.YtnkninjdpgpkmaaGreatDoor.Be Go.Proofs.YtnkninjdpgpkmaaGreatDoor.Na Go.Proofs.YtnkninjdpgpkmaaGreatDoor.Ne Go.Proofs.YtnkninjdpgpkmaaGreatDoor.Nm Go.Proofs.YtnkninjdpgpkmaaGreatDoor.Wr Go.Proofs.YtnkninjdpgpkmaaGreatDoor.Wc Go.Proofs.YtnkninjdpgpkmaaGreatDoor.Ww Go.Proofs.YtnkninjdpgpkmaaGreatDoor.Pm Go.Proofs.YtnkninjdpgpkmaaGreatDoor.Pr Go.Proofs.YtnkninjdpgpkmaaGreatDoor.Kc Go.Proofs.YtnkninjdpgpkmaaGreatDoor.Kd Go.Proofs.YtnkninjdpgpkmaaGreatDoor.Ke Go.Proofs.YtnkninjdpgpkmaaGreatDoor.Km Go.Proofs.YtnkninjdpgpkmaaGreatDoor.Ks Go.Proofs.YtnkninjdpgpkmaaGreatDoor.Sm Go.Proofs.YtnkninjdpgpkmaaGreatDoor.Sp Go.Proofs.YtnkninjdpgpkmaaGreatDoor.Sr Go.Proofs.YtnkninjdpgpkmaaGreatDoor.Me Go.Proofs.YtnkninjdpgpkmaaGreatDoor.Mi Go.Proofs.YtnkninjdpgpkmaaGreatDoor.Fm Go.Proofs.YtnkninjdpgpkmaaGreatDoor.Fa Go.Proofs.YtnkninjdpgpkmaaGreatDoor.Ga Go.Proofs.YtnkninjdpgpkmaaGreatDoor.Im Go.Proofs.YtnkninjdpgpkmaaGreatDoor.Ia Go.Proofs.YtnkninjdpgpkmaaGreatDoor.Ib Go.Proofs.YtnkninjdpgpkmaaGreatDoor.Ih Go.Proofs.YtnkninjdpgpkmaaGreatDoor.Ik Go.Proofs.YtnkninjdpgpkmaaGreatDoor.Is Go.Proofs.YtnkninjdpgpkmaaGreatDoor.Ira Go.Proofs.YtnkninjdpgpkmaaGreatDoor.Irb Go.Proofs.YtnkninjdpgpkmaaGreatDoor.Irc Go.Proofs.YtnkninjdpgpkmaaGreatDoor.Ird

/-- A Made of nothing. -/
def mz : Array Value := #[.string ⟨#[]⟩, .slice none 0 0, .int .i64 0, .int .i64 0]
/-- All's work, on its way: x has been made, L the blocks' beginnings. -/
structure aw (w : World) (Y g r : Nat) (t : ByteArray) (q : List UInt8) (a : Nat) (v : Value) (x : List UInt8) (vS : Value) (L : List (Nat × Nat)) (u : World) : Prop where
  k : wk u g r t a v (q ++ x) q.length
  b : Below w.heap.size w u
  lo : w.heap.size ≤ g ∧ w.heap.size ≤ r ∧ ∀ i, v.ownBlock = some i → w.heap.size ≤ i
  y : Blk u Y 34 mz
  s : rst w.heap.size u vS L
section
variable {w u u2 : World} {Y g r : Nat} {t : ByteArray} {q : List UInt8} {a : Nat} {v : Value} {x : List UInt8} {vS : Value} {L : List (Nat × Nat)}
theorem rst_ow {v2 : Value} {c : List UInt8} {pre : Nat} {B : Nat} (h : rst B u vS L) (k : wk u g r t a v2 c pre) (o : Only (ow g r v2) u u2) : rst B u2 vS L := h.only o (fun i hi hS => by
  rcases h.2 with ⟨rfl, _⟩ | ⟨b, cap, cur, rfl, _, hb, _⟩
  · cases hi
  · obtain rfl : b = i := Option.some.inj hi
    rcases hS with rfl | rfl | hv
    · exact Blk.apart (show Blk u b 80 cur from hb) k.1 (by decide) rfl
    · exact Blk.apart (show Blk u b 80 cur from hb) k.2.1 (by decide) rfl
    · exact k.2.2.1.apart (show Blk u b 80 cur from hb) (by decide) b hv rfl)
theorem aw.on {a2 : Nat} {v2 : Value} {x2 : List UInt8} (h : aw w Y g r t q a v x vS L u) (k : wk u2 g r t a2 v2 (q ++ x2) q.length) (o : Only (ow g r v) u u2) (l : lat u v v2) : aw w Y g r t q a2 v2 x2 vS L u2 :=
  ⟨k, o.below h.b h.b.size (fun i hi => by
      rcases hi with rfl | rfl | e
      · exact h.lo.1
      · exact h.lo.2.1
      · exact h.lo.2.2 i e), ⟨h.lo.1, h.lo.2.1, fun i hi => by
      rcases l i hi with e | e
      · exact h.lo.2.2 i e
      · exact Nat.le_trans h.b.size e⟩, blk_ow h.y h.k o (by decide) (by decide) (by decide), rst_ow h.s h.k o⟩
theorem aw.below (h : aw w Y g r t q a v x vS L u) (k : Below u.heap.size u u2) : aw w Y g r t q a v x vS L u2 :=
  ⟨h.k.below k, h.b.trans (k.mono h.b.size), h.lo, h.y.below k, h.s.below k⟩
theorem aw.moved {a2 : Nat} (h : aw w Y g r t q a v x vS L u) (o : Only (At r) u u2) (r2 : rr u2 r t a2) : aw w Y g r t q a2 v x vS L u2 := h.on (h.k.moved o r2).1 (h.k.moved o r2).2 (lat.refl _ _)
theorem rbuf_drop {w : World} {b n cap : Nat} {l : List UInt8} (h : rbuf w (.slice (some ⟨b, 0, none⟩) n cap) l) {x : Nat} (hx : x ≤ l.length) :
    ∃ A', (∀ u : World, (Instr.slice 62 (.slice (some ⟨b, 0, none⟩) n cap) (some (.int .i64 (x : Int))) none none).run Tryz.prog u = .ok (.slice A' (n - x) (cap - x)) u) ∧ ∀ u, Below w.heap.size w u → (convert 62 9 (.slice A' (n - x) (cap - x))).run Tryz.prog u = .ok (.string ⟨(l.drop x).toArray⟩) u := by
  obtain ⟨b', cap', e, hcap, _⟩ := h.block
  have e1 : n = l.length := (Value.slice.inj e).2.1
  have e2 : cap = cap' := (Value.slice.inj e).2.2
  rw [← e2] at hcap
  clear e e2
  subst e1
  have h1 : (0 : Int) ≤ (x : Int) := by omega
  have h2 : (x : Int) ≤ (l.length : Int) := by omega
  refine ⟨if cap = x then some ⟨b, 0, none⟩ else (some (⟨b, 0, none⟩ : Addr)).map (·.add (x * 1)), fun u => ?_, fun u hu => rbuf_string (h.below hu) hx (fun h0 => ?_)⟩
  · clear h
    generalize l.length = n at *
    go_simp
  · rw [if_neg (by omega)]
    simp [Addr.add]
    exact fun e => e.symm
theorem rst_blk {B i : Nat} (h : rst B u vS L) (hi : vS.ownBlock = some i) : ∃ cur, Blk u i 80 cur := by
  rcases h.2 with ⟨rfl, _⟩ | ⟨b, cap, cur, rfl, _, hb, _⟩
  · cases hi
  · obtain rfl : b = i := Option.some.inj hi
    exact ⟨cur, hb⟩
theorem rst_blk_off {B y : Nat} {ty : TypeId} {cs : Array Value} (h : rst B u vS L) (k : Blk u y ty cs) (o : Only (fun i => vS.ownBlock = some i) u u2) (hne : 80 ≠ ty) : Blk u2 y ty cs := k.only o (fun e => by
  obtain ⟨cur, hb⟩ := rst_blk h e
  exact Blk.apart hb k hne rfl)
theorem rst_lst_off {B : Nat} {vl : Value} {l : List Nat} (h : rst B u vS L) (k : lst u vl l) (o : Only (fun i => vS.ownBlock = some i) u u2) : lst u2 vl l := k.off o (fun i hi => by
  obtain ⟨cur, hb⟩ := rst_blk h hi
  exact ⟨_, _, hb, by decide⟩)
theorem aw.start {vS2 : Value} {L2 : List (Nat × Nat)} (h : aw w Y g r t q a v x vS L u) (o : Only (fun i => vS.ownBlock = some i) u u2) (b : Below w.heap.size w u2) (s : rst w.heap.size u2 vS2 L2) : aw w Y g r t q a v x vS2 L2 u2 :=
  ⟨⟨rst_blk_off h.s h.k.1 o (by decide), rst_blk_off h.s h.k.2.1 o (by decide), h.k.2.2.1.only o (fun i hi hS => by
      obtain ⟨cur, hb⟩ := rst_blk h.s hS
      exact h.k.2.2.1.apart hb (by decide) i hi rfl), h.k.2.2.2⟩, b, h.lo, rst_blk_off h.s h.y o (by decide), s⟩
/-- What All answers. -/
def allR (w : World) (t : ByteArray) (a0 : Nat) (q : List UInt8) (e : Ending) (w' : World) : Prop :=
  ∃ vS z, e = .returned (.agg #[.string ⟨(tot t a0 q).2.2.2.toArray⟩, vS, .int .i64 z, .int .i64 (tot t a0 q).1]) ∧ rst w.heap.size w' vS (tot t a0 q).2.1 ∧ ((tot t a0 q).1 = 0 → z = ((tot t a0 q).2.2.1 : Int)) ∧ Below w.heap.size w w'
end
theorem one4 (b : ByteArray) (k z : Int) (A1 : Option Addr) (n1 c1 : Nat) : (#[.string b, .slice A1 n1 c1, .int .i64 k, .int .i64 z] : Array Value).all (·.oneCell') = true := by simp [Value.oneCell']
theorem aw.done {w u u2 : World} {g r : Nat} {t : ByteArray} {q : List UInt8} {a a0 p : Nat} {v : Value} {x : List UInt8} {vS : Value} {L : List (Nat × Nat)} (W : aw w w.heap.size g r t q a v x vS L u) (hu : Below u.heap.size u u2) {er : Int} (hT : tot t a0 q = (er, L, p, x)) (hz : er = 0 → a = p) (cs : Array Value) :
    allR w t a0 q (.returned (.agg #[.string ⟨x.toArray⟩, vS, .int .i64 (a : Int), .int .i64 er])) (u2.setRow w.heap.size cs) := by
  have W2 := W.below hu
  have o : Only (fun i => i = w.heap.size) u2 (u2.setRow w.heap.size cs) := only_row (S := fun i => i = w.heap.size) (Only.refl _ _) rfl _
  refine ⟨vS, (a : Int), by rw [hT], ?_, fun e => ?_, o.below W2.b W2.b.size (fun i hi => by rw [hi]; exact Nat.le_refl _)⟩
  · rw [hT]
    refine W2.s.only o (fun i hi hS => ?_)
    rcases W2.s.2 with ⟨rfl, _⟩ | ⟨b, cap, cur, rfl, _, hb, _⟩
    · cases hi
    · obtain rfl : b = i := Option.some.inj hi
      exact Blk.apart (show Blk u2 b 80 cur from hb) W2.y (by decide) hS
  · rw [hT] at e ⊢
    rw [hz e]
theorem sizeM : (Tryz.prog.info? 34).map (fun i => i.size) = some 4 := by kernel_rfl
set_option maxHeartbeats 4000000 in
set_option maxRecDepth 100000 in
theorem rAll_short {t q : ByteArray} {a0 : Nat} {w : World} (h6 : t.size ≤ 600) (ha : a0 ≤ 8 * t.size) (hq : q.size ≤ 32768) :
    Calls Tryz.prog 10 #[.string t, .int .i64 (a0 : Int), .string q] w (allR w t a0 q.data.toList) := by
  have HQ := Lib.hid hq
  obtain ⟨Q, hQ⟩ : ∃ Q, Q = q.data.toList := ⟨_, rfl⟩
  rw [← hQ]
  have HQQ := Lib.hid hQ
  have HQL : Hid (Q.length = q.size) := Lib.hid (by rw [hQ]; exact Array.length_toList)
  clear hQ
  have HA0 := Lib.hid ha
  have H6 := Lib.hid h6
  have hq' : ¬ (32768 : Int) < (q.size : Int) := by omega
  have HN := Lib.hid (rNew_ok t a0 (w.alloc (.cells mz 34)) (by omega) ha)
  obtain ⟨N, hN⟩ : ∃ N, N = num t.data.toList := ⟨_, rfl⟩
  obtain ⟨M, hM⟩ : ∃ M, M = 8 * t.size := ⟨_, rfl⟩
  have HNN := Lib.hid hN
  have HMM := Lib.hid hM
  have HT : Hid (tot t a0 Q = allM N M a0 Q 0) := Lib.hid (by rw [hN, hM]; rfl)
  have HQS : Hid (Q.length ≤ 32768) := Lib.hid (by rw [HQL.out]; exact hq)
  clear hN hM hq ha h6
  go_enter Tryz.func10, Tryz.ntmps10
  go_wp2_with fail
  refine HN.out.mono ?_
  rintro e w2 ⟨r, rfl, hr, hrr, hb2⟩
  rw [size_alloc] at hrr
  have B2 : Hid (Below w.heap.size w w2) := Lib.hid (((Below.refl _ w).alloc (Nat.le_refl _) (.cells mz 34)).trans (hb2.mono (by rw [size_alloc]; omega)))
  have Y2 : Hid (Blk w2 w.heap.size 34 mz) := Lib.hid ((Blk.fresh w _ _).below hb2)
  have R2 := Lib.hid hr
  clear hr hb2 HN
  have hcv := run_bytes_of_string (P := Tryz.prog) w2 9 62 5 q Tryz.underlying9 Tryz.underlying62 Tryz.underlying5
  have hnew := rbuf_new w2 q
  rw [← HQQ.out] at hnew
  generalize grownCap w2 q.size 0 5 = cap at hcv hnew
  obtain ⟨w3, hw3⟩ : ∃ w3, w3 = w2.drew.alloc (.cells (bytesRow q cap) 5 ((bytesRow q cap).size, (bytesRow q cap).size + 1)) := ⟨_, rfl⟩
  rw [← hw3] at hcv hnew
  have B3 : Hid (Below w2.heap.size w2 w3) := Lib.hid (by rw [hw3]; exact ((Below.refl _ w2).drew).alloc (Nat.le_refl _) _)
  have Z3 : w3.heap.size = w2.heap.size + 1 := by rw [hw3]; exact size_alloc _ _
  obtain ⟨w4, hw4⟩ : ∃ w4, w4 = w3.alloc (.cells #[.pointer (some ⟨r, 0, none⟩), .slice (some ⟨w2.heap.size, 0, none⟩) q.size cap, .int .i64 (q.size : Int)] 73) := ⟨_, rfl⟩
  obtain ⟨G, hG⟩ : ∃ G, G = w3.heap.size := ⟨_, rfl⟩
  have B4 : Below w3.heap.size w3 w4 := by rw [hw4]; exact (Below.refl _ w3).alloc (Nat.le_refl _) _
  have hql := HQL.out
  have W4 : Hid (aw w w.heap.size G r t Q a0 (.slice (some ⟨w2.heap.size, 0, none⟩) q.size cap) [] (.slice none 0 0) [] w4) := Lib.hid
    ⟨⟨by rw [hql, hw4, hG]; exact Blk.fresh _ _ _, (R2.out.below B3.out).below B4, by rw [List.append_nil]; exact hnew.below B4, by simp⟩,
      (B2.out.trans (B3.out.mono B2.out.size)).trans (B4.mono (by have := B2.out.size; omega)), ⟨by have := B2.out.size; omega, by omega, fun i hi => by obtain rfl : w2.heap.size = i := Option.some.inj hi; exact B2.out.size⟩,
      (Y2.out.below B3.out).below B4, rst_nil _ _⟩
  clear B2 Y2 R2 hnew hw3 B3 B4 hql hrr Z3
  go_wp2_with fail
  rw [← hw4, ← hG]
  clear hw4 hG hcv
  go_loopg [10] (M - a0) (fun gk s10 wr => ∃ (a : Nat) (v : Value) (x : List UInt8) (L : List (Nat × Nat)) (A : Option Addr) (n cp : Nat), s10 = .slice A n cp ∧ Hid (n = L.length) ∧ Hid (gk = M - a) ∧ Hid (a ≤ M) ∧ Hid (L.length ≤ a ∧ x.length + 258 * (M - a) ≤ 258 * M) ∧ Hid (aw w w.heap.size G r t Q a v x (.slice A n cp) L wr) ∧ Hid (allM N M a0 Q 0 = ((allM N M a (Q ++ x) x.length).1, L ++ (allM N M a (Q ++ x) x.length).2.1, (allM N M a (Q ++ x) x.length).2.2.1, x ++ (allM N M a (Q ++ x) x.length).2.2.2)))
  case atStart => exact ⟨a0, _, [], [], none, 0, 0, rfl, Lib.hid rfl, Lib.hid rfl, Lib.hid (by rw [HMM.out]; exact HA0.out), Lib.hid ⟨Nat.zero_le _, by show 0 + 258 * (M - a0) ≤ 258 * M; omega⟩, W4, Lib.hid (by rw [List.append_nil, List.nil_append, List.nil_append]; rfl)⟩
  case round =>
    obtain ⟨a, v, x, L, A, n, cp, rfl, HLN, HG, HA, HLA, W, HE⟩ := hrel
    clear W4
    have c1 : wr.cell? ⟨r, 1, none⟩ = some (.int .i64 (a : Int)) := W.out.k.2.1.cell 1
    have HRD := Lib.hid (rRead_all W.out.k.2.1 (by have := H6.out; omega) (by rw [← HMM.out]; exact HA.out))
    unfold rReads at HRD
    rw [← HNN.out, ← HMM.out] at HRD
    obtain ⟨er, her⟩ : ∃ er, er = (headM N M a).1 := ⟨_, rfl⟩
    obtain ⟨hd, hhd⟩ : ∃ hd, hd = (headM N M a).2.1 := ⟨_, rfl⟩
    obtain ⟨a1, ha1⟩ : ∃ a1, a1 = (headM N M a).2.2 := ⟨_, rfl⟩
    rw [← her, ← hhd, ← ha1] at HRD
    have HER := Lib.hid her
    have HHD := Lib.hid hhd
    have HA1 := Lib.hid ha1
    clear her hhd ha1
    go_wp2_with fail
    refine HRD.out.mono ?_
    rintro e w3 ⟨b, kk, z, A1, n1, cp1, A2, n2, cp2, rfl, hH, r3, o3⟩
    have W3 := W.out.moved o3 r3
    obtain ⟨w4, hw4⟩ : ∃ w4, w4 = w3.alloc (.cells #[.bool b, .int .i64 kk, .int .i64 z, .slice A1 n1 cp1, .slice A2 n2 cp2] 77) := ⟨_, rfl⟩
    obtain ⟨G2, hG2⟩ : ∃ G2, G2 = w3.heap.size := ⟨_, rfl⟩
    have KH : Hid (Blk w4 G2 77 #[.bool b, .int .i64 kk, .int .i64 z, .slice A1 n1 cp1, .slice A2 n2 cp2]) := Lib.hid (by rw [hw4, hG2]; exact Blk.fresh w3 _ _)
    have B4 : Below w3.heap.size w3 w4 := by rw [hw4]; exact (Below.refl _ w3).alloc (Nat.le_refl _) _
    have W4 := Lib.hid (W3.below B4)
    have HH4 := Lib.hid (hH.below B4)
    clear hH r3 o3 W3 B4 HRD c1
    by_cases h0 : er = 0
    · have hne : (er == 0) = true := by simp [h0]
      have HR0 : Hid ((headM N M a).1 = 0) := Lib.hid (by rw [← HER.out]; exact h0)
      subst h0
      obtain ⟨v1, v2, hve, lv1, lv2⟩ := HH4.out
      have hb : b = hd.fin ∧ kk = (hd.kind : Int) ∧ z = (hd.size : Int) ∧ Value.slice A1 n1 cp1 = v1 ∧ Value.slice A2 n2 cp2 = v2 := by
        unfold hv at hve
        injection hve with hve
        simp only [Array.mk.injEq, List.cons.injEq, Value.bool.injEq, Value.int.injEq, true_and, and_true] at hve
        exact hve
      obtain ⟨hb1, hb2, hb3, hb4, hb5⟩ := hb
      have LV1 : Hid (lst w4 (.slice A1 n1 cp1) hd.lits) := Lib.hid (by rw [hb4]; exact lv1)
      have LV2 : Hid (lst w4 (.slice A2 n2 cp2) hd.dists) := Lib.hid (by rw [hb5]; exact lv2)
      have HB1 := Lib.hid hb1
      have HB2 := Lib.hid hb2
      have HB3 := Lib.hid hb3
      clear hve hb1 hb2 hb3 hb4 hb5 lv1 lv2 HH4
      obtain ⟨bz, cz, hvz, _⟩ := W4.out.k.2.2.1.block
      obtain ⟨nz, hnz⟩ : ∃ nz, nz = (Q ++ x).length := ⟨_, rfl⟩
      rw [← hnz] at hvz
      subst hvz
      obtain ⟨P, hP⟩ : ∃ P, P = Q.length := ⟨_, rfl⟩
      obtain ⟨xl, hxl⟩ : ∃ xl, xl = x.length := ⟨_, rfl⟩
      have hsub : (nz : Int) - (P : Int) = (xl : Int) := by rw [hP, hnz, hxl, List.length_append]; omega
      have HP := Lib.hid hP
      have HXL := Lib.hid hxl.symm
      have HQX : Hid ((Q ++ x).length + 258 * (M - a1) ≤ 1900000 ∧ xl ≤ 1900000) := Lib.hid (by
        have h1 := HLA.out.2; have h2 := HA.out; have h3 := HMM.out; have h4 := H6.out; have h5 := HQS.out; have h6 := (head_facts HR0.out).2.1
        rw [← HA1.out] at h6
        rw [List.length_append]; omega)
      have e1 : w4.cell? ⟨G, 1, none⟩ = some (.slice (some ⟨bz, 0, none⟩) nz cz) := W4.out.k.1.cell 1
      have e2 : w4.cell? ⟨G, 2, none⟩ = some (.int .i64 (P : Int)) := by rw [hP]; exact W4.out.k.1.cell 2
      have hO : w4.ownsRow w.heap.size 80 2 (.slice A n cp) n (Ls L) := by
        have k := W4.out.s
        unfold rst at k
        rw [← HLN.out] at k
        exact k
      have hxb : (xl : Int) ≤ 2000000 := by have := HQX.out.2; omega
      have hxw : IntKind.i64.wrap (xl : Int) = (xl : Int) := by rw [IntKind.wrap_i64]; omega
      have hbs := W4.out.b.size
      have hnb : n ≤ 5000 := by rw [HLN.out]; have h1 := HLA.out.1; have h2 := HA.out; have h3 := HMM.out; have h4 := H6.out; omega
      obtain ⟨i0, hi, hz0, hz1, hz2⟩ := info_parts infoRs
      clear hnz hP hxl
      go_wp2_with fail
      rw [← hw4, ← hG2]
      clear hw4 hG2
      go_wp2_with fail
      go_region_law (refine step_append_lies _ (by rfl) _ _ _ (by rfl) w.heap.size 80 i0 _ 2 16 Tryz.underlying32 hi hz0 hz1 hz2 rfl (by omega) (.slice A n cp) n (Ls L) (by rfl) ((hO.alloc _).drew) ⟨w4.heap.size, 0, none⟩ 1 1 [.int .i64 (a : Int), .int .i64 (xl : Int)] (by rfl) (by rfl) (World.news_of_block (cs := #[.int .i64 (a : Int), .int .i64 (xl : Int)]) (t := 80) (fr := (0, 0)) (heap_alloc_new _ _)) (by simp [Value.oneCell']) (by omega) (by unfold maxLen; omega) (by omega) (by simp; omega) (w4.heap.size + 1) (by simp) ?_; intro gg cap1 w5 hown1 hgrow hat hlt)
      all_goals
        have O5 : Only (fun i => (Value.slice A n cp).ownBlock = some i) w4 w5 := (((Only.refl _ w4).alloc _).drew).grown hgrow (fun i hi _ => hi)
        have KB : Below w.heap.size w w5 := (W4.out.b.alloc hbs _).drew.grown hgrow (by simp; omega) (fun q hq => (hO.lt q hq).1)
        have KR : rst w.heap.size w5 (.slice (some ⟨gg, 0, none⟩) (n + 1) cap1) (L ++ [(a, xl)]) := by
          have hlen : (L ++ [(a, xl)]).length = n + 1 := by rw [List.length_append, HLN.out]; rfl
          unfold rst
          rw [hlen, Ls_append]
          exact hown1
        have W5 := Lib.hid (W4.out.start O5 KB KR)
        have KH5 := Lib.hid (rst_blk_off W4.out.s KH.out O5 (by decide))
        have LV15 := Lib.hid (rst_lst_off W4.out.s LV1.out O5)
        have LV25 := Lib.hid (rst_lst_off W4.out.s LV2.out O5)
        have k1 : w5.cell? ⟨G2, 1, none⟩ = some (.int .i64 kk) := KH5.out.cell 1
        obtain ⟨R, hR⟩ : ∃ R, R = bodM hd N M a1 (Q ++ x) := ⟨_, rfl⟩
        have hbf := (bod_facts (N := N) (head_15 HR0.out).1 (head_15 HR0.out).2 (head_facts HR0.out).2.2 (Q ++ x)).2.2.2
        rw [← HHD.out, ← HA1.out, ← hR] at hbf
        have hnx := head_nx HR0.out
        rw [← HHD.out, ← HA1.out] at hnx
        have ha1M : a1 ≤ M := by rw [HA1.out]; exact (head_facts HR0.out).2.2
        have ha1a : a ≤ a1 := by rw [HA1.out]; have := (head_facts HR0.out).2.1; omega
        by_cases hk : hd.kind = 0
        · have hkk : kk = 0 := by rw [HB2.out, hk]; rfl
          have hnx2 : a1 % 8 = 0 ∧ hd.size ≤ 65535 := by unfold nxOf at hnx; rw [if_pos hk] at hnx; exact hnx
          have hR2 : R = stoW N M a1 hd.size := by rw [hR]; unfold bodM stoW; rw [if_pos hk]
          have hcall := rstored_any HB3.out hnx2.2 W5.out.k (by have := H6.out; omega) (by rw [← HMM.out]; exact ha1M) (by have := HQX.out.1; have := hnx2.2; omega)
          rw [← HNN.out, ← HMM.out, ← hR2] at hcall
          obtain ⟨E6, p6, X6⟩ := R
          have HCALL := Lib.hid hcall
          have HBR := Lib.hid hR
          have HBF : Hid (E6 = 0 → X6.length + 258 * (M - p6) ≤ 258 * (M - a1)) := Lib.hid hbf
          have HAA : Hid (a ≤ a1) := Lib.hid ha1a
          clear hbf
          have k2 : w5.cell? ⟨G2, 2, none⟩ = some (.int .i64 z) := KH5.out.cell 2
          clear hown1 hgrow hat hlt hO O5 KB KR hcall hR hR2 hnx hnx2 ha1M ha1a hk e1 e2 hsub hxw hxb
          subst hkk
          go_wp2_with fail
          refine HCALL.out.mono ?_
          rintro e w6 ⟨rfl, v6, a6, k6, h6, e6, o6, l6⟩
          rw [List.append_assoc] at k6
          have W6 := Lib.hid (W5.out.on k6 o6 l6)
          have KH6 := blk_ow KH5.out W5.out.k o6 (by decide) (by decide) (by decide)
          have HA6 : Hid (a6 ≤ M) := Lib.hid (by rw [HMM.out]; exact h6)
          have HE6 := Lib.hid e6
          have b0 : w6.cell? ⟨G2, 0, none⟩ = some (.bool b) := KH6.cell 0
          clear k6 o6 l6 KH6 h6 e6
          by_cases hE6 : E6 = 0
          · cases hb : b
            · rw [hb] at b0
              have HAL := Lib.hid (all_next (c := Q ++ x) (k := x.length) HR0.out (by rw [← HHD.out, ← HA1.out, ← HBR.out]; exact hE6) (by rw [← HHD.out, ← HB1.out]; exact hb) (b := (E6, p6, X6)) (by rw [HBR.out, HHD.out, HA1.out]))
              have HPE : Hid (a6 = p6) := Lib.hid (HE6.out hE6)
              have HPL : Hid (a < a6) := Lib.hid (by
                have h9 := (head_bod HR0.out (Q ++ x)).1
                rw [← HHD.out, ← HA1.out, ← HBR.out] at h9
                rw [HPE.out]; exact h9)
              subst hE6
              go_wp2
              go_roundg (M - a6)
              case measure => have := HG.out; have := HPL.out; have := HA6.out; omega
              case rel =>
                refine ⟨a6, v6, x ++ X6, L ++ [(a, xl)], some ⟨gg, 0, none⟩, n + 1, cap1, rfl, Lib.hid (by rw [List.length_append, HLN.out]; rfl), Lib.hid rfl, HA6, Lib.hid ⟨by rw [List.length_append]; have h8 := HLA.out.1; have h7 := HPL.out; show L.length + 1 ≤ a6; omega, by rw [List.length_append]; have h8 := HLA.out.2; have h9 := HBF.out (by trivial); rw [← HPE.out] at h9; have := HAA.out; have := HA.out; omega⟩, W6, Lib.hid ?_⟩
                rw [HE.out, HAL.out, HXL.out, HPE.out]
                simp only [List.append_assoc, List.length_append, List.cons_append, List.nil_append, HXL.out]
            · rw [hb] at b0
              have HAL := Lib.hid (all_stop (c := Q ++ x) (k := x.length) HR0.out (.inr (by rw [← HHD.out, ← HB1.out]; exact hb)))
              rw [← HHD.out, ← HA1.out, ← HBR.out] at HAL
              have HPE : Hid (a6 = p6) := Lib.hid (HE6.out hE6)
              subst hE6
              obtain ⟨bz2, cz2, hvz2, _⟩ := W6.out.k.2.2.1.block
              obtain ⟨nz2, hnz2⟩ : ∃ nz2, nz2 = (Q ++ (x ++ X6)).length := ⟨_, rfl⟩
              rw [← hnz2] at hvz2
              subst hvz2
              have hPz2 : P ≤ nz2 := by rw [HP.out, hnz2, List.length_append]; omega
              obtain ⟨Az, hsl, hcz⟩ := rbuf_drop W6.out.k.2.2.1 (x := P) (by rw [← hnz2]; exact hPz2)
              rw [HP.out, List.drop_left, ← HP.out] at hcz
              have hcz := hcz w6.drew ((Below.refl _ w6).drew)
              have hsl := hsl w6.drew
              have e1 : w6.cell? ⟨G, 1, none⟩ = some (.slice (some ⟨bz2, 0, none⟩) nz2 cz2) := W6.out.k.1.cell 1
              have e2 : w6.cell? ⟨G, 2, none⟩ = some (.int .i64 (P : Int)) := by rw [HP.out]; exact W6.out.k.1.cell 2
              have e3 : w6.cell? ⟨r, 1, none⟩ = some (.int .i64 (a6 : Int)) := W6.out.k.2.1.cell 1
              clear hnz2
              go_wp2_with fail
              go_still_tail 17, (by kernel_rfl)
              have HY : Hid (Blk w6.drew w.heap.size 34 mz) := Lib.hid (W6.out.y.below ((Below.refl _ w6).drew))
              go_wp2_with (refine wpList_store_row rfl 34 _ _ rfl w.heap.size #[.string ⟨(x ++ X6).toArray⟩, .slice (some ⟨gg, 0, none⟩) (n + 1) cap1, .int .i64 (a6 : Int), .int .i64 0] rfl rfl _ _ HY.out sizeM rfl (one4 _ _ _ _ _ _) ?_)
              (try simp only [Exit.inBlock, Exit.then])
              refine bodyPost_ret (v := .agg #[.string ⟨(x ++ X6).toArray⟩, .slice (some ⟨gg, 0, none⟩) (n + 1) cap1, .int .i64 (a6 : Int), .int .i64 0]) (results_cell_row rfl _ _ w.heap.size 34 _ _ _ rfl (setRow_heap _ _ _ _ _ _ HY.out) Tryz.underlying34 rfl sizeM) rfl ?_
              refine W6.out.done ((Below.refl _ w6).drew) (p := p6) ?_ (fun _ => HPE.out) _
              rw [HT.out, HE.out, HAL.out, HXL.out]

          · have hE7 : (E6 != 0) = true := by simp [hE6]
            have HAL := Lib.hid (all_stop (c := Q ++ x) (k := x.length) HR0.out (.inl (by rw [← HHD.out, ← HA1.out, ← HBR.out]; exact hE6)))
            rw [← HHD.out, ← HA1.out, ← HBR.out] at HAL
            have HE7 := Lib.hid hE6
            clear hE6
            obtain ⟨bz2, cz2, hvz2, _⟩ := W6.out.k.2.2.1.block
            obtain ⟨nz2, hnz2⟩ : ∃ nz2, nz2 = (Q ++ (x ++ X6)).length := ⟨_, rfl⟩
            rw [← hnz2] at hvz2
            subst hvz2
            have hPz2 : P ≤ nz2 := by rw [HP.out, hnz2, List.length_append]; omega
            obtain ⟨Az, hsl, hcz⟩ := rbuf_drop W6.out.k.2.2.1 (x := P) (by rw [← hnz2]; exact hPz2)
            rw [HP.out, List.drop_left, ← HP.out] at hcz
            have hcz := hcz w6.drew ((Below.refl _ w6).drew)
            have hsl := hsl w6.drew
            have e1 : w6.cell? ⟨G, 1, none⟩ = some (.slice (some ⟨bz2, 0, none⟩) nz2 cz2) := W6.out.k.1.cell 1
            have e2 : w6.cell? ⟨G, 2, none⟩ = some (.int .i64 (P : Int)) := by rw [HP.out]; exact W6.out.k.1.cell 2
            have e3 : w6.cell? ⟨r, 1, none⟩ = some (.int .i64 (a6 : Int)) := W6.out.k.2.1.cell 1
            clear hnz2
            go_wp2_with fail
            go_still_tail 17, (by kernel_rfl)
            have HY : Hid (Blk w6.drew w.heap.size 34 mz) := Lib.hid (W6.out.y.below ((Below.refl _ w6).drew))
            go_wp2_with (refine wpList_store_row rfl 34 _ _ rfl w.heap.size #[.string ⟨(x ++ X6).toArray⟩, .slice (some ⟨gg, 0, none⟩) (n + 1) cap1, .int .i64 (a6 : Int), .int .i64 E6] rfl rfl _ _ HY.out sizeM rfl (one4 _ _ _ _ _ _) ?_)
            (try simp only [Exit.inBlock, Exit.then])
            refine bodyPost_ret (v := .agg #[.string ⟨(x ++ X6).toArray⟩, .slice (some ⟨gg, 0, none⟩) (n + 1) cap1, .int .i64 (a6 : Int), .int .i64 E6]) (results_cell_row rfl _ _ w.heap.size 34 _ _ _ rfl (setRow_heap _ _ _ _ _ _ HY.out) Tryz.underlying34 rfl sizeM) rfl ?_
            refine W6.out.done ((Below.refl _ w6).drew) (p := p6) ?_ (fun e => absurd e HE7.out) _
            rw [HT.out, HE.out, HAL.out, HXL.out]

        · have hkk : (kk == 0) = false := by rw [HB2.out]; simp; omega
          have hnx2 : code hd.lits ∧ code hd.dists := by unfold nxOf at hnx; rw [if_neg hk] at hnx; exact hnx
          have hR2 : R = codM hd.lits hd.dists N M a1 (Q ++ x) := by rw [hR]; unfold bodM; rw [if_neg hk]
          have hcall := rcoded_any (fb := b) (kd := kk) (z := z) W5.out.k LV15.out LV25.out hnx2.1 hnx2.2 (by have := H6.out; omega) (by rw [← HMM.out]; exact ha1M) (by rw [← HMM.out]; have := HQX.out.1; omega)
          rw [← HNN.out, ← HMM.out, ← hR2] at hcall
          obtain ⟨E6, p6, X6⟩ := R
          have HCALL := Lib.hid hcall
          have HBR := Lib.hid hR
          have HBF : Hid (E6 = 0 → X6.length + 258 * (M - p6) ≤ 258 * (M - a1)) := Lib.hid hbf
          have HAA : Hid (a ≤ a1) := Lib.hid ha1a
          clear hbf
          clear hown1 hgrow hat hlt hO O5 KB KR hcall hR hR2 hnx hnx2 ha1M ha1a hk e1 e2 hsub hxw hxb
          go_wp2_with (refine wpList_load_row rfl 77 _ rfl G2 rfl _ _ _ _ KH5.out Tryz.underlying77 rfl Kn.sizeR ?_)
          refine HCALL.out.mono ?_
          rintro e w6 ⟨rfl, v6, a6, k6, h6, e6, o6, l6⟩
          rw [List.append_assoc] at k6
          have W6 := Lib.hid (W5.out.on k6 o6 l6)
          have KH6 := blk_ow KH5.out W5.out.k o6 (by decide) (by decide) (by decide)
          have HA6 : Hid (a6 ≤ M) := Lib.hid (by rw [HMM.out]; exact h6)
          have HE6 := Lib.hid e6
          have b0 : w6.cell? ⟨G2, 0, none⟩ = some (.bool b) := KH6.cell 0
          clear k6 o6 l6 KH6 h6 e6
          by_cases hE6 : E6 = 0
          · cases hb : b
            · rw [hb] at b0
              have HAL := Lib.hid (all_next (c := Q ++ x) (k := x.length) HR0.out (by rw [← HHD.out, ← HA1.out, ← HBR.out]; exact hE6) (by rw [← HHD.out, ← HB1.out]; exact hb) (b := (E6, p6, X6)) (by rw [HBR.out, HHD.out, HA1.out]))
              have HPE : Hid (a6 = p6) := Lib.hid (HE6.out hE6)
              have HPL : Hid (a < a6) := Lib.hid (by
                have h9 := (head_bod HR0.out (Q ++ x)).1
                rw [← HHD.out, ← HA1.out, ← HBR.out] at h9
                rw [HPE.out]; exact h9)
              subst hE6
              go_wp2
              go_roundg (M - a6)
              case measure => have := HG.out; have := HPL.out; have := HA6.out; omega
              case rel =>
                refine ⟨a6, v6, x ++ X6, L ++ [(a, xl)], some ⟨gg, 0, none⟩, n + 1, cap1, rfl, Lib.hid (by rw [List.length_append, HLN.out]; rfl), Lib.hid rfl, HA6, Lib.hid ⟨by rw [List.length_append]; have h8 := HLA.out.1; have h7 := HPL.out; show L.length + 1 ≤ a6; omega, by rw [List.length_append]; have h8 := HLA.out.2; have h9 := HBF.out (by trivial); rw [← HPE.out] at h9; have := HAA.out; have := HA.out; omega⟩, W6, Lib.hid ?_⟩
                rw [HE.out, HAL.out, HXL.out, HPE.out]
                simp only [List.append_assoc, List.length_append, List.cons_append, List.nil_append, HXL.out]
            · rw [hb] at b0
              have HAL := Lib.hid (all_stop (c := Q ++ x) (k := x.length) HR0.out (.inr (by rw [← HHD.out, ← HB1.out]; exact hb)))
              rw [← HHD.out, ← HA1.out, ← HBR.out] at HAL
              have HPE : Hid (a6 = p6) := Lib.hid (HE6.out hE6)
              subst hE6
              obtain ⟨bz2, cz2, hvz2, _⟩ := W6.out.k.2.2.1.block
              obtain ⟨nz2, hnz2⟩ : ∃ nz2, nz2 = (Q ++ (x ++ X6)).length := ⟨_, rfl⟩
              rw [← hnz2] at hvz2
              subst hvz2
              have hPz2 : P ≤ nz2 := by rw [HP.out, hnz2, List.length_append]; omega
              obtain ⟨Az, hsl, hcz⟩ := rbuf_drop W6.out.k.2.2.1 (x := P) (by rw [← hnz2]; exact hPz2)
              rw [HP.out, List.drop_left, ← HP.out] at hcz
              have hcz := hcz w6.drew ((Below.refl _ w6).drew)
              have hsl := hsl w6.drew
              have e1 : w6.cell? ⟨G, 1, none⟩ = some (.slice (some ⟨bz2, 0, none⟩) nz2 cz2) := W6.out.k.1.cell 1
              have e2 : w6.cell? ⟨G, 2, none⟩ = some (.int .i64 (P : Int)) := by rw [HP.out]; exact W6.out.k.1.cell 2
              have e3 : w6.cell? ⟨r, 1, none⟩ = some (.int .i64 (a6 : Int)) := W6.out.k.2.1.cell 1
              clear hnz2
              go_wp2_with fail
              go_still_tail 17, (by kernel_rfl)
              have HY : Hid (Blk w6.drew w.heap.size 34 mz) := Lib.hid (W6.out.y.below ((Below.refl _ w6).drew))
              go_wp2_with (refine wpList_store_row rfl 34 _ _ rfl w.heap.size #[.string ⟨(x ++ X6).toArray⟩, .slice (some ⟨gg, 0, none⟩) (n + 1) cap1, .int .i64 (a6 : Int), .int .i64 0] rfl rfl _ _ HY.out sizeM rfl (one4 _ _ _ _ _ _) ?_)
              (try simp only [Exit.inBlock, Exit.then])
              refine bodyPost_ret (v := .agg #[.string ⟨(x ++ X6).toArray⟩, .slice (some ⟨gg, 0, none⟩) (n + 1) cap1, .int .i64 (a6 : Int), .int .i64 0]) (results_cell_row rfl _ _ w.heap.size 34 _ _ _ rfl (setRow_heap _ _ _ _ _ _ HY.out) Tryz.underlying34 rfl sizeM) rfl ?_
              refine W6.out.done ((Below.refl _ w6).drew) (p := p6) ?_ (fun _ => HPE.out) _
              rw [HT.out, HE.out, HAL.out, HXL.out]

          · have hE7 : (E6 != 0) = true := by simp [hE6]
            have HAL := Lib.hid (all_stop (c := Q ++ x) (k := x.length) HR0.out (.inl (by rw [← HHD.out, ← HA1.out, ← HBR.out]; exact hE6)))
            rw [← HHD.out, ← HA1.out, ← HBR.out] at HAL
            have HE7 := Lib.hid hE6
            clear hE6
            obtain ⟨bz2, cz2, hvz2, _⟩ := W6.out.k.2.2.1.block
            obtain ⟨nz2, hnz2⟩ : ∃ nz2, nz2 = (Q ++ (x ++ X6)).length := ⟨_, rfl⟩
            rw [← hnz2] at hvz2
            subst hvz2
            have hPz2 : P ≤ nz2 := by rw [HP.out, hnz2, List.length_append]; omega
            obtain ⟨Az, hsl, hcz⟩ := rbuf_drop W6.out.k.2.2.1 (x := P) (by rw [← hnz2]; exact hPz2)
            rw [HP.out, List.drop_left, ← HP.out] at hcz
            have hcz := hcz w6.drew ((Below.refl _ w6).drew)
            have hsl := hsl w6.drew
            have e1 : w6.cell? ⟨G, 1, none⟩ = some (.slice (some ⟨bz2, 0, none⟩) nz2 cz2) := W6.out.k.1.cell 1
            have e2 : w6.cell? ⟨G, 2, none⟩ = some (.int .i64 (P : Int)) := by rw [HP.out]; exact W6.out.k.1.cell 2
            have e3 : w6.cell? ⟨r, 1, none⟩ = some (.int .i64 (a6 : Int)) := W6.out.k.2.1.cell 1
            clear hnz2
            go_wp2_with fail
            go_still_tail 17, (by kernel_rfl)
            have HY : Hid (Blk w6.drew w.heap.size 34 mz) := Lib.hid (W6.out.y.below ((Below.refl _ w6).drew))
            go_wp2_with (refine wpList_store_row rfl 34 _ _ rfl w.heap.size #[.string ⟨(x ++ X6).toArray⟩, .slice (some ⟨gg, 0, none⟩) (n + 1) cap1, .int .i64 (a6 : Int), .int .i64 E6] rfl rfl _ _ HY.out sizeM rfl (one4 _ _ _ _ _ _) ?_)
            (try simp only [Exit.inBlock, Exit.then])
            refine bodyPost_ret (v := .agg #[.string ⟨(x ++ X6).toArray⟩, .slice (some ⟨gg, 0, none⟩) (n + 1) cap1, .int .i64 (a6 : Int), .int .i64 E6]) (results_cell_row rfl _ _ w.heap.size 34 _ _ _ rfl (setRow_heap _ _ _ _ _ _ HY.out) Tryz.underlying34 rfl sizeM) rfl ?_
            refine W6.out.done ((Below.refl _ w6).drew) (p := p6) ?_ (fun e => absurd e HE7.out) _
            rw [HT.out, HE.out, HAL.out, HXL.out]
    · have hne : (er == 0) = false := by simp [h0]
      have hne2 : (er != 0) = true := by simp [h0]
      have HER0 : Hid ((headM N M a).1 ≠ 0) := Lib.hid (by rw [← HER.out]; exact h0)
      have HAL := Lib.hid (all_head (c := Q ++ x) (k := x.length) HER0.out)
      obtain ⟨bz, cz, hvz, _⟩ := W4.out.k.2.2.1.block
      obtain ⟨nz, hnz⟩ : ∃ nz, nz = (Q ++ x).length := ⟨_, rfl⟩
      rw [← hnz] at hvz
      subst hvz
      obtain ⟨P, hP⟩ : ∃ P, P = Q.length := ⟨_, rfl⟩
      have hPz : P ≤ nz := by rw [hP, hnz, List.length_append]; omega
      obtain ⟨Az, hsl, hcz⟩ := rbuf_drop W4.out.k.2.2.1 (x := P) (by rw [← hnz]; exact hPz)
      rw [hP, List.drop_left, ← hP] at hcz
      have hcz := hcz w4.drew ((Below.refl _ w4).drew)
      have hsl := hsl w4.drew
      have e1 : w4.cell? ⟨G, 1, none⟩ = some (.slice (some ⟨bz, 0, none⟩) nz cz) := W4.out.k.1.cell 1
      have e2 : w4.cell? ⟨G, 2, none⟩ = some (.int .i64 (P : Int)) := by rw [hP]; exact W4.out.k.1.cell 2
      have e3 : w4.cell? ⟨r, 1, none⟩ = some (.int .i64 (a1 : Int)) := W4.out.k.2.1.cell 1
      clear hnz hP h0
      go_wp2_with fail
      rw [← hw4, ← hG2]
      clear hw4 hG2
      go_wp2_with fail
      go_still_tail 17, (by kernel_rfl)
      have HY : Hid (Blk w4.drew w.heap.size 34 mz) := Lib.hid (W4.out.y.below ((Below.refl _ w4).drew))
      go_wp2_with (refine wpList_store_row rfl 34 _ _ rfl w.heap.size #[.string ⟨x.toArray⟩, .slice A n cp, .int .i64 (a1 : Int), .int .i64 er] rfl rfl _ _ HY.out sizeM rfl (one4 _ _ _ _ _ _) ?_)
      (try simp only [Exit.inBlock, Exit.then])
      refine bodyPost_ret (v := .agg #[.string ⟨x.toArray⟩, .slice A n cp, .int .i64 (a1 : Int), .int .i64 er]) (results_cell_row rfl _ _ w.heap.size 34 _ _ _ rfl (setRow_heap _ _ _ _ _ _ HY.out) Tryz.underlying34 rfl sizeM) rfl ?_
      refine W4.out.done ((Below.refl _ w4).drew) (p := a) ?_ (fun e => absurd (HER.out.symm.trans e) HER0.out) _
      rw [HT.out, HE.out, HAL.out, HER.out]
      simp
end Go.Proofs.YtnkninjdpgpkmaaGreatDoor.Ire
namespace Go.Proofs.YtnkninjdpgpkmaaGreatDoor.Irf
open Go.RowKit Go.Proofs.YtnkninjdpgpkmaaGreatDoor.Vm Go.Proofs.YtnkninjdpgpkmaaGreatDoor.Vo Go.Proofs.YtnkninjdpgpkmaaGreatDoor.Bm Go.Proofs.YtnkninjdpgpkmaaGreatDoor.Bw Go.Proofs.YtnkninjdpgpkmaaGreatDoor.Bp Go.Proofs.YtnkninjdpgpkmaaGreatDoor.Bs Go.Proofs.YtnkninjdpgpkmaaGreatDoor.Bq Go.Proofs.YtnkninjdpgpkmaaGreatDoor.Be Go.Proofs.YtnkninjdpgpkmaaGreatDoor.Na Go.Proofs.YtnkninjdpgpkmaaGreatDoor.Ne Go.Proofs.YtnkninjdpgpkmaaGreatDoor.Nm Go.Proofs.YtnkninjdpgpkmaaGreatDoor.Wr Go.Proofs.YtnkninjdpgpkmaaGreatDoor.Wc Go.Proofs.YtnkninjdpgpkmaaGreatDoor.Ww Go.Proofs.YtnkninjdpgpkmaaGreatDoor.Pm Go.Proofs.YtnkninjdpgpkmaaGreatDoor.Pr Go.Proofs.YtnkninjdpgpkmaaGreatDoor.Kc Go.Proofs.YtnkninjdpgpkmaaGreatDoor.Kd Go.Proofs.YtnkninjdpgpkmaaGreatDoor.Ke Go.Proofs.YtnkninjdpgpkmaaGreatDoor.Km Go.Proofs.YtnkninjdpgpkmaaGreatDoor.Ks Go.Proofs.YtnkninjdpgpkmaaGreatDoor.Sm Go.Proofs.YtnkninjdpgpkmaaGreatDoor.Sp Go.Proofs.YtnkninjdpgpkmaaGreatDoor.Sr Go.Proofs.YtnkninjdpgpkmaaGreatDoor.Me Go.Proofs.YtnkninjdpgpkmaaGreatDoor.Mi Go.Proofs.YtnkninjdpgpkmaaGreatDoor.Fm Go.Proofs.YtnkninjdpgpkmaaGreatDoor.Fa Go.Proofs.YtnkninjdpgpkmaaGreatDoor.Ga Go.Proofs.YtnkninjdpgpkmaaGreatDoor.Im Go.Proofs.YtnkninjdpgpkmaaGreatDoor.Ia Go.Proofs.YtnkninjdpgpkmaaGreatDoor.Ib Go.Proofs.YtnkninjdpgpkmaaGreatDoor.Ih Go.Proofs.YtnkninjdpgpkmaaGreatDoor.Ik Go.Proofs.YtnkninjdpgpkmaaGreatDoor.Is Go.Proofs.YtnkninjdpgpkmaaGreatDoor.Ira Go.Proofs.YtnkninjdpgpkmaaGreatDoor.Irb Go.Proofs.YtnkninjdpgpkmaaGreatDoor.Irc Go.Proofs.YtnkninjdpgpkmaaGreatDoor.Ird Go.Proofs.YtnkninjdpgpkmaaGreatDoor.Ire

theorem ext_last (q : ByteArray) : (q.extract (q.size - 32768) q.size).data.toList = Wm.lastN 32768 q.data.toList := by
  have hl : q.data.toList.length = q.size := Array.length_toList
  have hsz : q.data.size = q.size := rfl
  rw [ByteArray.data_extract, Array.toList_extract, List.extract_eq_take_drop]
  unfold Wm.lastN
  rw [hl, List.take_of_length_le (by rw [List.length_drop, hl]; exact Nat.le_refl _)]
set_option maxHeartbeats 4000000 in
set_option maxRecDepth 100000 in
theorem rAll_long {t q : ByteArray} {a0 : Nat} {w : World} (h6 : t.size ≤ 600) (ha : a0 ≤ 8 * t.size) (hq : 32768 < q.size) (hq4 : q.size ≤ 40000) :
    Calls Tryz.prog 10 #[.string t, .int .i64 (a0 : Int), .string q] w (allR w t a0 (Wm.lastN 32768 q.data.toList)) := by
  obtain ⟨dd, hd⟩ : ∃ dd, dd = q.size - 32768 := ⟨_, rfl⟩
  have hqs : q.data.toList.length = q.size := Array.length_toList
  obtain ⟨Q, hQ⟩ : ∃ Q, Q = Wm.lastN 32768 q.data.toList := ⟨_, rfl⟩
  rw [← hQ]
  have HQ2 : Hid (Q = (q.extract dd q.size).data.toList) := Lib.hid (by rw [hQ, hd]; exact (ext_last q).symm)
  have HQS : Hid (Q.length ≤ 32768) := Lib.hid (by rw [hQ, Wm.lastN_length]; omega)
  have hq' : (32768 : Int) < (q.size : Int) := by omega
  have hsz : (q.size : Int) ≤ 40000 := by omega
  have hsub : (q.size : Int) - 32768 = (dd : Int) := by omega
  have hd2 : (dd : Int) ≤ (q.size : Int) := by omega
  have HA0 := Lib.hid ha
  have H6 := Lib.hid h6
  have HN := Lib.hid (rNew_ok t a0 (w.alloc (.cells mz 34)) (by omega) ha)
  obtain ⟨N, hN⟩ : ∃ N, N = num t.data.toList := ⟨_, rfl⟩
  obtain ⟨M, hM⟩ : ∃ M, M = 8 * t.size := ⟨_, rfl⟩
  have HNN := Lib.hid hN
  have HMM := Lib.hid hM
  have HT : Hid (tot t a0 Q = allM N M a0 Q 0) := Lib.hid (by rw [hN, hM]; rfl)
  clear hN hM hq hq4 ha h6 hQ hqs hd
  obtain ⟨q2, hq2⟩ : ∃ q2, q2 = q.extract dd q.size := ⟨_, rfl⟩
  have hsl : ∀ u : World, (Instr.slice 9 (.string q) (some (.int .i64 (dd : Int))) none none).run Tryz.prog u = .ok (.string q2) u := fun u => by rw [hq2]; go_simp
  have HQQ : Hid (Q = q2.data.toList) := Lib.hid (by rw [hq2]; exact HQ2.out)
  have HQL : Hid (Q.length = q2.size) := Lib.hid (by rw [HQQ.out]; exact Array.length_toList)
  clear hq2 HQ2
  go_enter Tryz.func10, Tryz.ntmps10
  go_wp2_with fail
  refine HN.out.mono ?_
  rintro e w2 ⟨r, rfl, hr, hrr, hb2⟩
  rw [size_alloc] at hrr
  have B2 : Hid (Below w.heap.size w w2) := Lib.hid (((Below.refl _ w).alloc (Nat.le_refl _) (.cells mz 34)).trans (hb2.mono (by rw [size_alloc]; omega)))
  have Y2 : Hid (Blk w2 w.heap.size 34 mz) := Lib.hid ((Blk.fresh w _ _).below hb2)
  have R2 := Lib.hid hr
  clear hr hb2 HN
  have hcv := run_bytes_of_string (P := Tryz.prog) w2 9 62 5 q2 Tryz.underlying9 Tryz.underlying62 Tryz.underlying5
  have hnew := rbuf_new w2 q2
  rw [← HQQ.out] at hnew
  generalize grownCap w2 q2.size 0 5 = cap at hcv hnew
  obtain ⟨w3, hw3⟩ : ∃ w3, w3 = w2.drew.alloc (.cells (bytesRow q2 cap) 5 ((bytesRow q2 cap).size, (bytesRow q2 cap).size + 1)) := ⟨_, rfl⟩
  rw [← hw3] at hcv hnew
  have B3 : Hid (Below w2.heap.size w2 w3) := Lib.hid (by rw [hw3]; exact ((Below.refl _ w2).drew).alloc (Nat.le_refl _) _)
  have Z3 : w3.heap.size = w2.heap.size + 1 := by rw [hw3]; exact size_alloc _ _
  obtain ⟨w4, hw4⟩ : ∃ w4, w4 = w3.alloc (.cells #[.pointer (some ⟨r, 0, none⟩), .slice (some ⟨w2.heap.size, 0, none⟩) q2.size cap, .int .i64 (q2.size : Int)] 73) := ⟨_, rfl⟩
  obtain ⟨G, hG⟩ : ∃ G, G = w3.heap.size := ⟨_, rfl⟩
  have B4 : Below w3.heap.size w3 w4 := by rw [hw4]; exact (Below.refl _ w3).alloc (Nat.le_refl _) _
  have hql := HQL.out
  have W4 : Hid (aw w w.heap.size G r t Q a0 (.slice (some ⟨w2.heap.size, 0, none⟩) q2.size cap) [] (.slice none 0 0) [] w4) := Lib.hid
    ⟨⟨by rw [hql, hw4, hG]; exact Blk.fresh _ _ _, (R2.out.below B3.out).below B4, by rw [List.append_nil]; exact hnew.below B4, by simp⟩,
      (B2.out.trans (B3.out.mono B2.out.size)).trans (B4.mono (by have := B2.out.size; omega)), ⟨by have := B2.out.size; omega, by omega, fun i hi => by obtain rfl : w2.heap.size = i := Option.some.inj hi; exact B2.out.size⟩,
      (Y2.out.below B3.out).below B4, rst_nil _ _⟩
  clear B2 Y2 R2 hnew hw3 B3 B4 hql hrr Z3
  go_wp2_with fail
  rw [← hw4, ← hG]
  clear hw4 hG hcv hq' hsz hsub hd2 hsl
  go_loopg [10] (M - a0) (fun gk s10 wr => ∃ (a : Nat) (v : Value) (x : List UInt8) (L : List (Nat × Nat)) (A : Option Addr) (n cp : Nat), s10 = .slice A n cp ∧ Hid (n = L.length) ∧ Hid (gk = M - a) ∧ Hid (a ≤ M) ∧ Hid (L.length ≤ a ∧ x.length + 258 * (M - a) ≤ 258 * M) ∧ Hid (aw w w.heap.size G r t Q a v x (.slice A n cp) L wr) ∧ Hid (allM N M a0 Q 0 = ((allM N M a (Q ++ x) x.length).1, L ++ (allM N M a (Q ++ x) x.length).2.1, (allM N M a (Q ++ x) x.length).2.2.1, x ++ (allM N M a (Q ++ x) x.length).2.2.2)))
  case atStart => exact ⟨a0, _, [], [], none, 0, 0, rfl, Lib.hid rfl, Lib.hid rfl, Lib.hid (by rw [HMM.out]; exact HA0.out), Lib.hid ⟨Nat.zero_le _, by show 0 + 258 * (M - a0) ≤ 258 * M; omega⟩, W4, Lib.hid (by rw [List.append_nil, List.nil_append, List.nil_append]; rfl)⟩
  case round =>
    obtain ⟨a, v, x, L, A, n, cp, rfl, HLN, HG, HA, HLA, W, HE⟩ := hrel
    clear W4
    have c1 : wr.cell? ⟨r, 1, none⟩ = some (.int .i64 (a : Int)) := W.out.k.2.1.cell 1
    have HRD := Lib.hid (rRead_all W.out.k.2.1 (by have := H6.out; omega) (by rw [← HMM.out]; exact HA.out))
    unfold rReads at HRD
    rw [← HNN.out, ← HMM.out] at HRD
    obtain ⟨er, her⟩ : ∃ er, er = (headM N M a).1 := ⟨_, rfl⟩
    obtain ⟨hd, hhd⟩ : ∃ hd, hd = (headM N M a).2.1 := ⟨_, rfl⟩
    obtain ⟨a1, ha1⟩ : ∃ a1, a1 = (headM N M a).2.2 := ⟨_, rfl⟩
    rw [← her, ← hhd, ← ha1] at HRD
    have HER := Lib.hid her
    have HHD := Lib.hid hhd
    have HA1 := Lib.hid ha1
    clear her hhd ha1
    go_wp2_with fail
    refine HRD.out.mono ?_
    rintro e w3 ⟨b, kk, z, A1, n1, cp1, A2, n2, cp2, rfl, hH, r3, o3⟩
    have W3 := W.out.moved o3 r3
    obtain ⟨w4, hw4⟩ : ∃ w4, w4 = w3.alloc (.cells #[.bool b, .int .i64 kk, .int .i64 z, .slice A1 n1 cp1, .slice A2 n2 cp2] 77) := ⟨_, rfl⟩
    obtain ⟨G2, hG2⟩ : ∃ G2, G2 = w3.heap.size := ⟨_, rfl⟩
    have KH : Hid (Blk w4 G2 77 #[.bool b, .int .i64 kk, .int .i64 z, .slice A1 n1 cp1, .slice A2 n2 cp2]) := Lib.hid (by rw [hw4, hG2]; exact Blk.fresh w3 _ _)
    have B4 : Below w3.heap.size w3 w4 := by rw [hw4]; exact (Below.refl _ w3).alloc (Nat.le_refl _) _
    have W4 := Lib.hid (W3.below B4)
    have HH4 := Lib.hid (hH.below B4)
    clear hH r3 o3 W3 B4 HRD c1
    by_cases h0 : er = 0
    · have hne : (er == 0) = true := by simp [h0]
      have HR0 : Hid ((headM N M a).1 = 0) := Lib.hid (by rw [← HER.out]; exact h0)
      subst h0
      obtain ⟨v1, v2, hve, lv1, lv2⟩ := HH4.out
      have hb : b = hd.fin ∧ kk = (hd.kind : Int) ∧ z = (hd.size : Int) ∧ Value.slice A1 n1 cp1 = v1 ∧ Value.slice A2 n2 cp2 = v2 := by
        unfold hv at hve
        injection hve with hve
        simp only [Array.mk.injEq, List.cons.injEq, Value.bool.injEq, Value.int.injEq, true_and, and_true] at hve
        exact hve
      obtain ⟨hb1, hb2, hb3, hb4, hb5⟩ := hb
      have LV1 : Hid (lst w4 (.slice A1 n1 cp1) hd.lits) := Lib.hid (by rw [hb4]; exact lv1)
      have LV2 : Hid (lst w4 (.slice A2 n2 cp2) hd.dists) := Lib.hid (by rw [hb5]; exact lv2)
      have HB1 := Lib.hid hb1
      have HB2 := Lib.hid hb2
      have HB3 := Lib.hid hb3
      clear hve hb1 hb2 hb3 hb4 hb5 lv1 lv2 HH4
      obtain ⟨bz, cz, hvz, _⟩ := W4.out.k.2.2.1.block
      obtain ⟨nz, hnz⟩ : ∃ nz, nz = (Q ++ x).length := ⟨_, rfl⟩
      rw [← hnz] at hvz
      subst hvz
      obtain ⟨P, hP⟩ : ∃ P, P = Q.length := ⟨_, rfl⟩
      obtain ⟨xl, hxl⟩ : ∃ xl, xl = x.length := ⟨_, rfl⟩
      have hsub : (nz : Int) - (P : Int) = (xl : Int) := by rw [hP, hnz, hxl, List.length_append]; omega
      have HP := Lib.hid hP
      have HXL := Lib.hid hxl.symm
      have HQX : Hid ((Q ++ x).length + 258 * (M - a1) ≤ 1900000 ∧ xl ≤ 1900000) := Lib.hid (by
        have h1 := HLA.out.2; have h2 := HA.out; have h3 := HMM.out; have h4 := H6.out; have h5 := HQS.out; have h6 := (head_facts HR0.out).2.1
        rw [← HA1.out] at h6
        rw [List.length_append]; omega)
      have e1 : w4.cell? ⟨G, 1, none⟩ = some (.slice (some ⟨bz, 0, none⟩) nz cz) := W4.out.k.1.cell 1
      have e2 : w4.cell? ⟨G, 2, none⟩ = some (.int .i64 (P : Int)) := by rw [hP]; exact W4.out.k.1.cell 2
      have hO : w4.ownsRow w.heap.size 80 2 (.slice A n cp) n (Ls L) := by
        have k := W4.out.s
        unfold rst at k
        rw [← HLN.out] at k
        exact k
      have hxb : (xl : Int) ≤ 2000000 := by have := HQX.out.2; omega
      have hxw : IntKind.i64.wrap (xl : Int) = (xl : Int) := by rw [IntKind.wrap_i64]; omega
      have hbs := W4.out.b.size
      have hnb : n ≤ 5000 := by rw [HLN.out]; have h1 := HLA.out.1; have h2 := HA.out; have h3 := HMM.out; have h4 := H6.out; omega
      obtain ⟨i0, hi, hz0, hz1, hz2⟩ := info_parts infoRs
      clear hnz hP hxl
      go_wp2_with fail
      rw [← hw4, ← hG2]
      clear hw4 hG2
      go_wp2_with fail
      go_region_law (refine step_append_lies _ (by rfl) _ _ _ (by rfl) w.heap.size 80 i0 _ 2 16 Tryz.underlying32 hi hz0 hz1 hz2 rfl (by omega) (.slice A n cp) n (Ls L) (by rfl) ((hO.alloc _).drew) ⟨w4.heap.size, 0, none⟩ 1 1 [.int .i64 (a : Int), .int .i64 (xl : Int)] (by rfl) (by rfl) (World.news_of_block (cs := #[.int .i64 (a : Int), .int .i64 (xl : Int)]) (t := 80) (fr := (0, 0)) (heap_alloc_new _ _)) (by simp [Value.oneCell']) (by omega) (by unfold maxLen; omega) (by omega) (by simp; omega) (w4.heap.size + 1) (by simp) ?_; intro gg cap1 w5 hown1 hgrow hat hlt)
      all_goals
        have O5 : Only (fun i => (Value.slice A n cp).ownBlock = some i) w4 w5 := (((Only.refl _ w4).alloc _).drew).grown hgrow (fun i hi _ => hi)
        have KB : Below w.heap.size w w5 := (W4.out.b.alloc hbs _).drew.grown hgrow (by simp; omega) (fun q hq => (hO.lt q hq).1)
        have KR : rst w.heap.size w5 (.slice (some ⟨gg, 0, none⟩) (n + 1) cap1) (L ++ [(a, xl)]) := by
          have hlen : (L ++ [(a, xl)]).length = n + 1 := by rw [List.length_append, HLN.out]; rfl
          unfold rst
          rw [hlen, Ls_append]
          exact hown1
        have W5 := Lib.hid (W4.out.start O5 KB KR)
        have KH5 := Lib.hid (rst_blk_off W4.out.s KH.out O5 (by decide))
        have LV15 := Lib.hid (rst_lst_off W4.out.s LV1.out O5)
        have LV25 := Lib.hid (rst_lst_off W4.out.s LV2.out O5)
        have k1 : w5.cell? ⟨G2, 1, none⟩ = some (.int .i64 kk) := KH5.out.cell 1
        obtain ⟨R, hR⟩ : ∃ R, R = bodM hd N M a1 (Q ++ x) := ⟨_, rfl⟩
        have hbf := (bod_facts (N := N) (head_15 HR0.out).1 (head_15 HR0.out).2 (head_facts HR0.out).2.2 (Q ++ x)).2.2.2
        rw [← HHD.out, ← HA1.out, ← hR] at hbf
        have hnx := head_nx HR0.out
        rw [← HHD.out, ← HA1.out] at hnx
        have ha1M : a1 ≤ M := by rw [HA1.out]; exact (head_facts HR0.out).2.2
        have ha1a : a ≤ a1 := by rw [HA1.out]; have := (head_facts HR0.out).2.1; omega
        by_cases hk : hd.kind = 0
        · have hkk : kk = 0 := by rw [HB2.out, hk]; rfl
          have hnx2 : a1 % 8 = 0 ∧ hd.size ≤ 65535 := by unfold nxOf at hnx; rw [if_pos hk] at hnx; exact hnx
          have hR2 : R = stoW N M a1 hd.size := by rw [hR]; unfold bodM stoW; rw [if_pos hk]
          have hcall := rstored_any HB3.out hnx2.2 W5.out.k (by have := H6.out; omega) (by rw [← HMM.out]; exact ha1M) (by have := HQX.out.1; have := hnx2.2; omega)
          rw [← HNN.out, ← HMM.out, ← hR2] at hcall
          obtain ⟨E6, p6, X6⟩ := R
          have HCALL := Lib.hid hcall
          have HBR := Lib.hid hR
          have HBF : Hid (E6 = 0 → X6.length + 258 * (M - p6) ≤ 258 * (M - a1)) := Lib.hid hbf
          have HAA : Hid (a ≤ a1) := Lib.hid ha1a
          clear hbf
          have k2 : w5.cell? ⟨G2, 2, none⟩ = some (.int .i64 z) := KH5.out.cell 2
          clear hown1 hgrow hat hlt hO O5 KB KR hcall hR hR2 hnx hnx2 ha1M ha1a hk e1 e2 hsub hxw hxb
          subst hkk
          go_wp2_with fail
          refine HCALL.out.mono ?_
          rintro e w6 ⟨rfl, v6, a6, k6, h6, e6, o6, l6⟩
          rw [List.append_assoc] at k6
          have W6 := Lib.hid (W5.out.on k6 o6 l6)
          have KH6 := blk_ow KH5.out W5.out.k o6 (by decide) (by decide) (by decide)
          have HA6 : Hid (a6 ≤ M) := Lib.hid (by rw [HMM.out]; exact h6)
          have HE6 := Lib.hid e6
          have b0 : w6.cell? ⟨G2, 0, none⟩ = some (.bool b) := KH6.cell 0
          clear k6 o6 l6 KH6 h6 e6
          by_cases hE6 : E6 = 0
          · cases hb : b
            · rw [hb] at b0
              have HAL := Lib.hid (all_next (c := Q ++ x) (k := x.length) HR0.out (by rw [← HHD.out, ← HA1.out, ← HBR.out]; exact hE6) (by rw [← HHD.out, ← HB1.out]; exact hb) (b := (E6, p6, X6)) (by rw [HBR.out, HHD.out, HA1.out]))
              have HPE : Hid (a6 = p6) := Lib.hid (HE6.out hE6)
              have HPL : Hid (a < a6) := Lib.hid (by
                have h9 := (head_bod HR0.out (Q ++ x)).1
                rw [← HHD.out, ← HA1.out, ← HBR.out] at h9
                rw [HPE.out]; exact h9)
              subst hE6
              go_wp2
              go_roundg (M - a6)
              case measure => have := HG.out; have := HPL.out; have := HA6.out; omega
              case rel =>
                refine ⟨a6, v6, x ++ X6, L ++ [(a, xl)], some ⟨gg, 0, none⟩, n + 1, cap1, rfl, Lib.hid (by rw [List.length_append, HLN.out]; rfl), Lib.hid rfl, HA6, Lib.hid ⟨by rw [List.length_append]; have h8 := HLA.out.1; have h7 := HPL.out; show L.length + 1 ≤ a6; omega, by rw [List.length_append]; have h8 := HLA.out.2; have h9 := HBF.out (by trivial); rw [← HPE.out] at h9; have := HAA.out; have := HA.out; omega⟩, W6, Lib.hid ?_⟩
                rw [HE.out, HAL.out, HXL.out, HPE.out]
                simp only [List.append_assoc, List.length_append, List.cons_append, List.nil_append, HXL.out]
            · rw [hb] at b0
              have HAL := Lib.hid (all_stop (c := Q ++ x) (k := x.length) HR0.out (.inr (by rw [← HHD.out, ← HB1.out]; exact hb)))
              rw [← HHD.out, ← HA1.out, ← HBR.out] at HAL
              have HPE : Hid (a6 = p6) := Lib.hid (HE6.out hE6)
              subst hE6
              obtain ⟨bz2, cz2, hvz2, _⟩ := W6.out.k.2.2.1.block
              obtain ⟨nz2, hnz2⟩ : ∃ nz2, nz2 = (Q ++ (x ++ X6)).length := ⟨_, rfl⟩
              rw [← hnz2] at hvz2
              subst hvz2
              have hPz2 : P ≤ nz2 := by rw [HP.out, hnz2, List.length_append]; omega
              obtain ⟨Az, hsl, hcz⟩ := rbuf_drop W6.out.k.2.2.1 (x := P) (by rw [← hnz2]; exact hPz2)
              rw [HP.out, List.drop_left, ← HP.out] at hcz
              have hcz := hcz w6.drew ((Below.refl _ w6).drew)
              have hsl := hsl w6.drew
              have e1 : w6.cell? ⟨G, 1, none⟩ = some (.slice (some ⟨bz2, 0, none⟩) nz2 cz2) := W6.out.k.1.cell 1
              have e2 : w6.cell? ⟨G, 2, none⟩ = some (.int .i64 (P : Int)) := by rw [HP.out]; exact W6.out.k.1.cell 2
              have e3 : w6.cell? ⟨r, 1, none⟩ = some (.int .i64 (a6 : Int)) := W6.out.k.2.1.cell 1
              clear hnz2
              go_wp2_with fail
              go_still_tail 17, (by kernel_rfl)
              have HY : Hid (Blk w6.drew w.heap.size 34 mz) := Lib.hid (W6.out.y.below ((Below.refl _ w6).drew))
              go_wp2_with (refine wpList_store_row rfl 34 _ _ rfl w.heap.size #[.string ⟨(x ++ X6).toArray⟩, .slice (some ⟨gg, 0, none⟩) (n + 1) cap1, .int .i64 (a6 : Int), .int .i64 0] rfl rfl _ _ HY.out sizeM rfl (one4 _ _ _ _ _ _) ?_)
              (try simp only [Exit.inBlock, Exit.then])
              refine bodyPost_ret (v := .agg #[.string ⟨(x ++ X6).toArray⟩, .slice (some ⟨gg, 0, none⟩) (n + 1) cap1, .int .i64 (a6 : Int), .int .i64 0]) (results_cell_row rfl _ _ w.heap.size 34 _ _ _ rfl (setRow_heap _ _ _ _ _ _ HY.out) Tryz.underlying34 rfl sizeM) rfl ?_
              refine W6.out.done ((Below.refl _ w6).drew) (p := p6) ?_ (fun _ => HPE.out) _
              rw [HT.out, HE.out, HAL.out, HXL.out]

          · have hE7 : (E6 != 0) = true := by simp [hE6]
            have HAL := Lib.hid (all_stop (c := Q ++ x) (k := x.length) HR0.out (.inl (by rw [← HHD.out, ← HA1.out, ← HBR.out]; exact hE6)))
            rw [← HHD.out, ← HA1.out, ← HBR.out] at HAL
            have HE7 := Lib.hid hE6
            clear hE6
            obtain ⟨bz2, cz2, hvz2, _⟩ := W6.out.k.2.2.1.block
            obtain ⟨nz2, hnz2⟩ : ∃ nz2, nz2 = (Q ++ (x ++ X6)).length := ⟨_, rfl⟩
            rw [← hnz2] at hvz2
            subst hvz2
            have hPz2 : P ≤ nz2 := by rw [HP.out, hnz2, List.length_append]; omega
            obtain ⟨Az, hsl, hcz⟩ := rbuf_drop W6.out.k.2.2.1 (x := P) (by rw [← hnz2]; exact hPz2)
            rw [HP.out, List.drop_left, ← HP.out] at hcz
            have hcz := hcz w6.drew ((Below.refl _ w6).drew)
            have hsl := hsl w6.drew
            have e1 : w6.cell? ⟨G, 1, none⟩ = some (.slice (some ⟨bz2, 0, none⟩) nz2 cz2) := W6.out.k.1.cell 1
            have e2 : w6.cell? ⟨G, 2, none⟩ = some (.int .i64 (P : Int)) := by rw [HP.out]; exact W6.out.k.1.cell 2
            have e3 : w6.cell? ⟨r, 1, none⟩ = some (.int .i64 (a6 : Int)) := W6.out.k.2.1.cell 1
            clear hnz2
            go_wp2_with fail
            go_still_tail 17, (by kernel_rfl)
            have HY : Hid (Blk w6.drew w.heap.size 34 mz) := Lib.hid (W6.out.y.below ((Below.refl _ w6).drew))
            go_wp2_with (refine wpList_store_row rfl 34 _ _ rfl w.heap.size #[.string ⟨(x ++ X6).toArray⟩, .slice (some ⟨gg, 0, none⟩) (n + 1) cap1, .int .i64 (a6 : Int), .int .i64 E6] rfl rfl _ _ HY.out sizeM rfl (one4 _ _ _ _ _ _) ?_)
            (try simp only [Exit.inBlock, Exit.then])
            refine bodyPost_ret (v := .agg #[.string ⟨(x ++ X6).toArray⟩, .slice (some ⟨gg, 0, none⟩) (n + 1) cap1, .int .i64 (a6 : Int), .int .i64 E6]) (results_cell_row rfl _ _ w.heap.size 34 _ _ _ rfl (setRow_heap _ _ _ _ _ _ HY.out) Tryz.underlying34 rfl sizeM) rfl ?_
            refine W6.out.done ((Below.refl _ w6).drew) (p := p6) ?_ (fun e => absurd e HE7.out) _
            rw [HT.out, HE.out, HAL.out, HXL.out]

        · have hkk : (kk == 0) = false := by rw [HB2.out]; simp; omega
          have hnx2 : code hd.lits ∧ code hd.dists := by unfold nxOf at hnx; rw [if_neg hk] at hnx; exact hnx
          have hR2 : R = codM hd.lits hd.dists N M a1 (Q ++ x) := by rw [hR]; unfold bodM; rw [if_neg hk]
          have hcall := rcoded_any (fb := b) (kd := kk) (z := z) W5.out.k LV15.out LV25.out hnx2.1 hnx2.2 (by have := H6.out; omega) (by rw [← HMM.out]; exact ha1M) (by rw [← HMM.out]; have := HQX.out.1; omega)
          rw [← HNN.out, ← HMM.out, ← hR2] at hcall
          obtain ⟨E6, p6, X6⟩ := R
          have HCALL := Lib.hid hcall
          have HBR := Lib.hid hR
          have HBF : Hid (E6 = 0 → X6.length + 258 * (M - p6) ≤ 258 * (M - a1)) := Lib.hid hbf
          have HAA : Hid (a ≤ a1) := Lib.hid ha1a
          clear hbf
          clear hown1 hgrow hat hlt hO O5 KB KR hcall hR hR2 hnx hnx2 ha1M ha1a hk e1 e2 hsub hxw hxb
          go_wp2_with (refine wpList_load_row rfl 77 _ rfl G2 rfl _ _ _ _ KH5.out Tryz.underlying77 rfl Kn.sizeR ?_)
          refine HCALL.out.mono ?_
          rintro e w6 ⟨rfl, v6, a6, k6, h6, e6, o6, l6⟩
          rw [List.append_assoc] at k6
          have W6 := Lib.hid (W5.out.on k6 o6 l6)
          have KH6 := blk_ow KH5.out W5.out.k o6 (by decide) (by decide) (by decide)
          have HA6 : Hid (a6 ≤ M) := Lib.hid (by rw [HMM.out]; exact h6)
          have HE6 := Lib.hid e6
          have b0 : w6.cell? ⟨G2, 0, none⟩ = some (.bool b) := KH6.cell 0
          clear k6 o6 l6 KH6 h6 e6
          by_cases hE6 : E6 = 0
          · cases hb : b
            · rw [hb] at b0
              have HAL := Lib.hid (all_next (c := Q ++ x) (k := x.length) HR0.out (by rw [← HHD.out, ← HA1.out, ← HBR.out]; exact hE6) (by rw [← HHD.out, ← HB1.out]; exact hb) (b := (E6, p6, X6)) (by rw [HBR.out, HHD.out, HA1.out]))
              have HPE : Hid (a6 = p6) := Lib.hid (HE6.out hE6)
              have HPL : Hid (a < a6) := Lib.hid (by
                have h9 := (head_bod HR0.out (Q ++ x)).1
                rw [← HHD.out, ← HA1.out, ← HBR.out] at h9
                rw [HPE.out]; exact h9)
              subst hE6
              go_wp2
              go_roundg (M - a6)
              case measure => have := HG.out; have := HPL.out; have := HA6.out; omega
              case rel =>
                refine ⟨a6, v6, x ++ X6, L ++ [(a, xl)], some ⟨gg, 0, none⟩, n + 1, cap1, rfl, Lib.hid (by rw [List.length_append, HLN.out]; rfl), Lib.hid rfl, HA6, Lib.hid ⟨by rw [List.length_append]; have h8 := HLA.out.1; have h7 := HPL.out; show L.length + 1 ≤ a6; omega, by rw [List.length_append]; have h8 := HLA.out.2; have h9 := HBF.out (by trivial); rw [← HPE.out] at h9; have := HAA.out; have := HA.out; omega⟩, W6, Lib.hid ?_⟩
                rw [HE.out, HAL.out, HXL.out, HPE.out]
                simp only [List.append_assoc, List.length_append, List.cons_append, List.nil_append, HXL.out]
            · rw [hb] at b0
              have HAL := Lib.hid (all_stop (c := Q ++ x) (k := x.length) HR0.out (.inr (by rw [← HHD.out, ← HB1.out]; exact hb)))
              rw [← HHD.out, ← HA1.out, ← HBR.out] at HAL
              have HPE : Hid (a6 = p6) := Lib.hid (HE6.out hE6)
              subst hE6
              obtain ⟨bz2, cz2, hvz2, _⟩ := W6.out.k.2.2.1.block
              obtain ⟨nz2, hnz2⟩ : ∃ nz2, nz2 = (Q ++ (x ++ X6)).length := ⟨_, rfl⟩
              rw [← hnz2] at hvz2
              subst hvz2
              have hPz2 : P ≤ nz2 := by rw [HP.out, hnz2, List.length_append]; omega
              obtain ⟨Az, hsl, hcz⟩ := rbuf_drop W6.out.k.2.2.1 (x := P) (by rw [← hnz2]; exact hPz2)
              rw [HP.out, List.drop_left, ← HP.out] at hcz
              have hcz := hcz w6.drew ((Below.refl _ w6).drew)
              have hsl := hsl w6.drew
              have e1 : w6.cell? ⟨G, 1, none⟩ = some (.slice (some ⟨bz2, 0, none⟩) nz2 cz2) := W6.out.k.1.cell 1
              have e2 : w6.cell? ⟨G, 2, none⟩ = some (.int .i64 (P : Int)) := by rw [HP.out]; exact W6.out.k.1.cell 2
              have e3 : w6.cell? ⟨r, 1, none⟩ = some (.int .i64 (a6 : Int)) := W6.out.k.2.1.cell 1
              clear hnz2
              go_wp2_with fail
              go_still_tail 17, (by kernel_rfl)
              have HY : Hid (Blk w6.drew w.heap.size 34 mz) := Lib.hid (W6.out.y.below ((Below.refl _ w6).drew))
              go_wp2_with (refine wpList_store_row rfl 34 _ _ rfl w.heap.size #[.string ⟨(x ++ X6).toArray⟩, .slice (some ⟨gg, 0, none⟩) (n + 1) cap1, .int .i64 (a6 : Int), .int .i64 0] rfl rfl _ _ HY.out sizeM rfl (one4 _ _ _ _ _ _) ?_)
              (try simp only [Exit.inBlock, Exit.then])
              refine bodyPost_ret (v := .agg #[.string ⟨(x ++ X6).toArray⟩, .slice (some ⟨gg, 0, none⟩) (n + 1) cap1, .int .i64 (a6 : Int), .int .i64 0]) (results_cell_row rfl _ _ w.heap.size 34 _ _ _ rfl (setRow_heap _ _ _ _ _ _ HY.out) Tryz.underlying34 rfl sizeM) rfl ?_
              refine W6.out.done ((Below.refl _ w6).drew) (p := p6) ?_ (fun _ => HPE.out) _
              rw [HT.out, HE.out, HAL.out, HXL.out]

          · have hE7 : (E6 != 0) = true := by simp [hE6]
            have HAL := Lib.hid (all_stop (c := Q ++ x) (k := x.length) HR0.out (.inl (by rw [← HHD.out, ← HA1.out, ← HBR.out]; exact hE6)))
            rw [← HHD.out, ← HA1.out, ← HBR.out] at HAL
            have HE7 := Lib.hid hE6
            clear hE6
            obtain ⟨bz2, cz2, hvz2, _⟩ := W6.out.k.2.2.1.block
            obtain ⟨nz2, hnz2⟩ : ∃ nz2, nz2 = (Q ++ (x ++ X6)).length := ⟨_, rfl⟩
            rw [← hnz2] at hvz2
            subst hvz2
            have hPz2 : P ≤ nz2 := by rw [HP.out, hnz2, List.length_append]; omega
            obtain ⟨Az, hsl, hcz⟩ := rbuf_drop W6.out.k.2.2.1 (x := P) (by rw [← hnz2]; exact hPz2)
            rw [HP.out, List.drop_left, ← HP.out] at hcz
            have hcz := hcz w6.drew ((Below.refl _ w6).drew)
            have hsl := hsl w6.drew
            have e1 : w6.cell? ⟨G, 1, none⟩ = some (.slice (some ⟨bz2, 0, none⟩) nz2 cz2) := W6.out.k.1.cell 1
            have e2 : w6.cell? ⟨G, 2, none⟩ = some (.int .i64 (P : Int)) := by rw [HP.out]; exact W6.out.k.1.cell 2
            have e3 : w6.cell? ⟨r, 1, none⟩ = some (.int .i64 (a6 : Int)) := W6.out.k.2.1.cell 1
            clear hnz2
            go_wp2_with fail
            go_still_tail 17, (by kernel_rfl)
            have HY : Hid (Blk w6.drew w.heap.size 34 mz) := Lib.hid (W6.out.y.below ((Below.refl _ w6).drew))
            go_wp2_with (refine wpList_store_row rfl 34 _ _ rfl w.heap.size #[.string ⟨(x ++ X6).toArray⟩, .slice (some ⟨gg, 0, none⟩) (n + 1) cap1, .int .i64 (a6 : Int), .int .i64 E6] rfl rfl _ _ HY.out sizeM rfl (one4 _ _ _ _ _ _) ?_)
            (try simp only [Exit.inBlock, Exit.then])
            refine bodyPost_ret (v := .agg #[.string ⟨(x ++ X6).toArray⟩, .slice (some ⟨gg, 0, none⟩) (n + 1) cap1, .int .i64 (a6 : Int), .int .i64 E6]) (results_cell_row rfl _ _ w.heap.size 34 _ _ _ rfl (setRow_heap _ _ _ _ _ _ HY.out) Tryz.underlying34 rfl sizeM) rfl ?_
            refine W6.out.done ((Below.refl _ w6).drew) (p := p6) ?_ (fun e => absurd e HE7.out) _
            rw [HT.out, HE.out, HAL.out, HXL.out]
    · have hne : (er == 0) = false := by simp [h0]
      have hne2 : (er != 0) = true := by simp [h0]
      have HER0 : Hid ((headM N M a).1 ≠ 0) := Lib.hid (by rw [← HER.out]; exact h0)
      have HAL := Lib.hid (all_head (c := Q ++ x) (k := x.length) HER0.out)
      obtain ⟨bz, cz, hvz, _⟩ := W4.out.k.2.2.1.block
      obtain ⟨nz, hnz⟩ : ∃ nz, nz = (Q ++ x).length := ⟨_, rfl⟩
      rw [← hnz] at hvz
      subst hvz
      obtain ⟨P, hP⟩ : ∃ P, P = Q.length := ⟨_, rfl⟩
      have hPz : P ≤ nz := by rw [hP, hnz, List.length_append]; omega
      obtain ⟨Az, hsl, hcz⟩ := rbuf_drop W4.out.k.2.2.1 (x := P) (by rw [← hnz]; exact hPz)
      rw [hP, List.drop_left, ← hP] at hcz
      have hcz := hcz w4.drew ((Below.refl _ w4).drew)
      have hsl := hsl w4.drew
      have e1 : w4.cell? ⟨G, 1, none⟩ = some (.slice (some ⟨bz, 0, none⟩) nz cz) := W4.out.k.1.cell 1
      have e2 : w4.cell? ⟨G, 2, none⟩ = some (.int .i64 (P : Int)) := by rw [hP]; exact W4.out.k.1.cell 2
      have e3 : w4.cell? ⟨r, 1, none⟩ = some (.int .i64 (a1 : Int)) := W4.out.k.2.1.cell 1
      clear hnz hP h0
      go_wp2_with fail
      rw [← hw4, ← hG2]
      clear hw4 hG2
      go_wp2_with fail
      go_still_tail 17, (by kernel_rfl)
      have HY : Hid (Blk w4.drew w.heap.size 34 mz) := Lib.hid (W4.out.y.below ((Below.refl _ w4).drew))
      go_wp2_with (refine wpList_store_row rfl 34 _ _ rfl w.heap.size #[.string ⟨x.toArray⟩, .slice A n cp, .int .i64 (a1 : Int), .int .i64 er] rfl rfl _ _ HY.out sizeM rfl (one4 _ _ _ _ _ _) ?_)
      (try simp only [Exit.inBlock, Exit.then])
      refine bodyPost_ret (v := .agg #[.string ⟨x.toArray⟩, .slice A n cp, .int .i64 (a1 : Int), .int .i64 er]) (results_cell_row rfl _ _ w.heap.size 34 _ _ _ rfl (setRow_heap _ _ _ _ _ _ HY.out) Tryz.underlying34 rfl sizeM) rfl ?_
      refine W4.out.done ((Below.refl _ w4).drew) (p := a) ?_ (fun e => absurd (HER.out.symm.trans e) HER0.out) _
      rw [HT.out, HE.out, HAL.out, HER.out]
      simp
theorem rAll_any {t q : ByteArray} {a0 : Nat} {w : World} (h6 : t.size ≤ 600) (ha : a0 ≤ 8 * t.size) (hq4 : q.size ≤ 40000) :
    Calls Tryz.prog 10 #[.string t, .int .i64 (a0 : Int), .string q] w (allR w t a0 (Wm.lastN 32768 q.data.toList)) := by
  by_cases hq : q.size ≤ 32768
  · rw [Wm.lastN_all (by rw [Array.length_toList]; exact hq)]
    exact rAll_short h6 ha hq
  · exact rAll_long h6 ha (by omega) hq4
end Go.Proofs.YtnkninjdpgpkmaaGreatDoor.Irf
namespace Go.Proofs.YtnkninjdpgpkmaaGreatDoor.Iq
open Go.RowKit Go.Proofs.YtnkninjdpgpkmaaGreatDoor.Sb Go.Proofs.YtnkninjdpgpkmaaGreatDoor.Vm Go.Proofs.YtnkninjdpgpkmaaGreatDoor.Bm Go.Proofs.YtnkninjdpgpkmaaGreatDoor.Bw Go.Proofs.YtnkninjdpgpkmaaGreatDoor.Nm Go.Proofs.YtnkninjdpgpkmaaGreatDoor.Pm Go.Proofs.YtnkninjdpgpkmaaGreatDoor.Km Go.Proofs.YtnkninjdpgpkmaaGreatDoor.Kw Go.Proofs.YtnkninjdpgpkmaaGreatDoor.Ks Go.Proofs.YtnkninjdpgpkmaaGreatDoor.Ky Go.Proofs.YtnkninjdpgpkmaaGreatDoor.Fm Go.Proofs.YtnkninjdpgpkmaaGreatDoor.Fa Go.Proofs.YtnkninjdpgpkmaaGreatDoor.Gm Go.Proofs.YtnkninjdpgpkmaaGreatDoor.Ga Go.Proofs.YtnkninjdpgpkmaaGreatDoor.Im Go.Proofs.YtnkninjdpgpkmaaGreatDoor.Ib Go.Proofs.YtnkninjdpgpkmaaGreatDoor.Ih Go.Proofs.YtnkninjdpgpkmaaGreatDoor.Ik Go.Proofs.YtnkninjdpgpkmaaGreatDoor.In

theorem tot_one : tot ⟨#[75, 4, 0]⟩ 0 [] = (0, [(0, 0)], 18, [97]) := by
  have hM : 8 * (⟨#[75, 4, 0]⟩ : ByteArray).size = 24 := rfl
  obtain ⟨N, hN⟩ : ∃ N, N = num (⟨#[75, 4, 0]⟩ : ByteArray).data.toList := ⟨_, rfl⟩
  have n0 : N = 1099 := by rw [hN]; decide +kernel
  have h1 : headM N 24 0 = (0, ⟨true, 1, 0, fixL, fixD⟩, 3) := by
    have hd : decide (peekN N 0 1 = 1) = true := by rw [n0]; decide +kernel
    rw [head_fix (by omega) (by rw [n0]; decide +kernel), hd]
  have g1 : got fixL N 3 (24 - 3) = some 97 := got_sy fixL_ok (by rw [fixL_len]; omega) (by decide +kernel) (by rw [n0]; decide +kernel) (by decide +kernel)
  have g2 : got fixL N 11 (24 - 11) = some 256 := got_sy fixL_ok (by rw [fixL_len]; omega) (by decide +kernel) (by rw [n0]; decide +kernel) (by decide +kernel)
  have e1 : nth fixL 97 = 8 := by decide +kernel
  have e2 : nth fixL 256 = 7 := by decide +kernel
  have s2 : symM fixL fixD N 24 11 (List.length ([97] : List UInt8)) = .fin 18 := by
    rw [sym_fin g2 rfl, e2]
  have s1 : symM fixL fixD N 24 3 (List.length ([] : List UInt8)) = .byte 11 97 := by
    rw [sym_byte g1 (by omega), e1]
  have c2 : codM fixL fixD N 24 11 [97] = (0, 18, []) := cod_fin s2
  have c1 : codM fixL fixD N 24 3 [] = (0, 18, [97]) := by
    rw [cod_byte s1 (by omega)]
    have : ([] : List UInt8) ++ [UInt8.ofNat 97] = [97] := rfl
    rw [this, c2]
    rfl
  have hb : bodM (headM N 24 0).2.1 N 24 (headM N 24 0).2.2 [] = (0, 18, [97]) := by
    rw [h1]
    unfold bodM
    rw [if_neg (by decide)]
    exact c1
  unfold tot
  rw [hM, ← hN, all_stop (by rw [h1]) (.inr (by rw [h1])), hb]
theorem tot_two : tot ⟨#[1, 2, 0, 253, 255, 97, 98]⟩ 0 [] = (0, [(0, 0)], 56, [97, 98]) := by
  have hM : 8 * (⟨#[1, 2, 0, 253, 255, 97, 98]⟩ : ByteArray).size = 56 := rfl
  obtain ⟨N, hN⟩ : ∃ N, N = num (⟨#[1, 2, 0, 253, 255, 97, 98]⟩ : ByteArray).data.toList := ⟨_, rfl⟩
  have n0 : N = 27692299806835201 := by rw [hN]; decide +kernel
  have s0 : stoM N 56 (0 + 3) = (0, 2, 40) := by rw [n0]; decide +kernel
  have h1 : headM N 56 0 = (0, ⟨true, 0, 2, [], []⟩, 40) := by
    have hd : decide (peekN N 0 1 = 1) = true := by rw [n0]; decide +kernel
    rw [head_sto (by omega) (by rw [n0]; decide +kernel) (by rw [s0]), s0, hd]
  have hb : bodM (headM N 56 0).2.1 N 56 (headM N 56 0).2.2 [] = (0, 56, [97, 98]) := by
    have hs : stoB N 40 2 = [97, 98] := by rw [n0]; decide +kernel
    rw [h1]
    unfold bodM
    rw [if_pos rfl, if_neg (by decide)]
    show (0, 40 + 8 * 2, stoB N 40 2) = _
    rw [hs]
  unfold tot
  rw [hM, ← hN, all_stop (by rw [h1]) (.inr (by rw [h1])), hb]
theorem tot_three : (tot ⟨#[7]⟩ 0 []).1 = 11 := by
  have hM : 8 * (⟨#[7]⟩ : ByteArray).size = 8 := rfl
  obtain ⟨N, hN⟩ : ∃ N, N = num (⟨#[7]⟩ : ByteArray).data.toList := ⟨_, rfl⟩
  have n0 : N = 7 := by rw [hN]; decide +kernel
  have h1 : headM N 8 0 = (11, Hd.zero, 0) := head_no (by omega) (by rw [n0]; decide +kernel)
  unfold tot
  rw [hM, ← hN, all_head (by rw [h1]; decide), h1]
theorem last_nil : Wm.lastN 32768 (⟨#[]⟩ : ByteArray).data.toList = [] := rfl

theorem small_any (s q : ByteArray) (w : World) : Calls Tryz.prog 7 #[.string s, .string q] w fun e w' => e = .returned (.bool (decide (s.size ≤ 600 ∧ q.size ≤ 40000))) ∧ w = w' := by
  by_cases h1 : s.size ≤ 600
  · have h1' : (s.size : Int) ≤ 600 := by omega
    by_cases h2 : q.size ≤ 40000
    · have h2' : (q.size : Int) ≤ 40000 := by omega
      have e : decide (s.size ≤ 600 ∧ q.size ≤ 40000) = true := decide_eq_true ⟨h1, h2⟩
      rw [e]
      clear e h1 h2
      go_enter Tryz.func7, Tryz.ntmps7
      go_wp2
      go_ret
      exact ⟨rfl, rfl⟩
    · have h2' : ¬ (q.size : Int) ≤ 40000 := by omega
      have e : decide (s.size ≤ 600 ∧ q.size ≤ 40000) = false := decide_eq_false (fun h => h2 h.2)
      rw [e]
      clear e h1 h2
      go_enter Tryz.func7, Tryz.ntmps7
      go_wp2
      go_ret
      exact ⟨rfl, rfl⟩
  · have h1' : ¬ (s.size : Int) ≤ 600 := by omega
    have e : decide (s.size ≤ 600 ∧ q.size ≤ 40000) = false := decide_eq_false (fun h => h1 h.1)
    rw [e]
    clear e h1
    go_enter Tryz.func7, Tryz.ntmps7
    go_wp2
    go_ret
    exact ⟨rfl, rfl⟩

set_option maxHeartbeats 1000000 in
set_option maxRecDepth 100000 in
theorem known_any (w : World) (hO : ordM w) : Calls Tryz.prog 8 #[] w fun e w' => e = .returned (.bool true) ∧ Below w.heap.size w w' := by
  have H1 := Lib.hid (fun u (h : ordM u) => all_any ⟨#[75, 4, 0]⟩ 0 ⟨#[]⟩ u h (by decide) (by decide) (by decide))
  have H2 := Lib.hid (fun u (h : ordM u) => all_any ⟨#[1, 2, 0, 253, 255, 97, 98]⟩ 0 ⟨#[]⟩ u h (by decide) (by decide) (by decide))
  have H3 := Lib.hid (fun u (h : ordM u) => all_any ⟨#[7]⟩ 0 ⟨#[]⟩ u h (by decide) (by decide) (by decide))
  have H4 := Lib.hid (fun u => all_arg ⟨#[]⟩ 1 ⟨#[]⟩ u (by decide) (by decide))
  unfold alls at H1 H2 H3
  rw [last_nil, tot_one] at H1
  rw [last_nil, tot_two] at H2
  rw [last_nil, tot_three] at H3
  have HO := Lib.hid hO
  clear hO
  go_enter Tryz.func8, Tryz.ntmps8
  go_wp2_with fail
  refine (H1.out _ HO.out).mono ?_
  rintro e w1 ⟨b1, hc1⟩
  obtain ⟨h, _⟩ | ⟨_, v1, rfl, hs1⟩ := hc1
  · exact absurd rfl h
  have B1 := Lib.hid b1
  obtain ⟨A1, c1, hv1, hq1⟩ := hs1.form
  obtain ⟨bb, hA1, _⟩ := hq1 (by decide)
  subst hA1; subst hv1
  have hcl := hs1.cell (i := 0) (x := (0, 0)) rfl
  have K1 := Lib.hid hcl.1
  have HL := Lib.hid (hs1.lo bb rfl).2
  clear b1 hs1 hcl hq1 H1
  go_wp2_with fail
  refine (H2.out _ (HO.out.below B1.out)).mono ?_
  rintro e w2 ⟨b2, hc2⟩
  obtain ⟨h, _⟩ | ⟨_, v2, rfl, hs2⟩ := hc2
  · exact absurd rfl h
  have B2 := Lib.hid b2
  obtain ⟨A2, c2, hv2, _⟩ := hs2.form
  subst hv2
  clear b2 hs2 H2
  go_wp2_with fail
  refine (H3.out _ ((HO.out.below B1.out).below B2.out)).mono ?_
  rintro e w3 ⟨b3, hc3⟩
  have he3 : e = .returned (.tuple #[.string ⟨#[]⟩, .slice none 0 0, .int .i64 0, .int .i64 11]) := by
    rcases hc3 with ⟨_, h⟩ | ⟨h, _⟩
    · exact h
    · cases h
  subst he3
  clear hc3
  have B3 := Lib.hid b3
  clear b3 H3
  have k0 : w3.cell? ⟨bb, 0, none⟩ = some (.int .i64 0) := (Below.cell B3.out (p := ⟨bb, 0, none⟩) (Nat.lt_of_lt_of_le HL.out B2.out.size)).trans ((Below.cell B2.out (p := ⟨bb, 0, none⟩) HL.out).trans K1.out)
  go_wp2_with (go_at_call 26; refine (H4.out _).mono ?_; rintro e w' ⟨rfl, rfl⟩)
  go_ret
  exact ⟨rfl, grows B1.out (grows B2.out B3.out)⟩
end Go.Proofs.YtnkninjdpgpkmaaGreatDoor.Iq
