/-
  The reference's All.
  The reference's All where the preset is longer than 32768 bytes; All for all presets.
  Conditions: as each theorem says.
-/
import Derived.Test.YtkcnjhkbcjnbkaaGreatDoorQbk
import Derived.Test.YtkcnjhkbcjnbkaaGreatDoorQbr
import Derived.Test.YtkcnjhkbcjnbkaaGreatDoorQbi
namespace Go.Proofs.YtkcnjhkbcjnbkaaGreatDoor.Ire
open Go.RowKit Go.Proofs.YtkcnjhkbcjnbkaaGreatDoor.Vm Go.Proofs.YtkcnjhkbcjnbkaaGreatDoor.Vo Go.Proofs.YtkcnjhkbcjnbkaaGreatDoor.Bm Go.Proofs.YtkcnjhkbcjnbkaaGreatDoor.Bw Go.Proofs.YtkcnjhkbcjnbkaaGreatDoor.Bp Go.Proofs.YtkcnjhkbcjnbkaaGreatDoor.Bs Go.Proofs.YtkcnjhkbcjnbkaaGreatDoor.Bq Go.Proofs.YtkcnjhkbcjnbkaaGreatDoor.Be Go.Proofs.YtkcnjhkbcjnbkaaGreatDoor.Na Go.Proofs.YtkcnjhkbcjnbkaaGreatDoor.Ne Go.Proofs.YtkcnjhkbcjnbkaaGreatDoor.Nm Go.Proofs.YtkcnjhkbcjnbkaaGreatDoor.Wr Go.Proofs.YtkcnjhkbcjnbkaaGreatDoor.Wc Go.Proofs.YtkcnjhkbcjnbkaaGreatDoor.Ww Go.Proofs.YtkcnjhkbcjnbkaaGreatDoor.Pm Go.Proofs.YtkcnjhkbcjnbkaaGreatDoor.Pr Go.Proofs.YtkcnjhkbcjnbkaaGreatDoor.Kc Go.Proofs.YtkcnjhkbcjnbkaaGreatDoor.Kd Go.Proofs.YtkcnjhkbcjnbkaaGreatDoor.Ke Go.Proofs.YtkcnjhkbcjnbkaaGreatDoor.Km Go.Proofs.YtkcnjhkbcjnbkaaGreatDoor.Ks Go.Proofs.YtkcnjhkbcjnbkaaGreatDoor.Sm Go.Proofs.YtkcnjhkbcjnbkaaGreatDoor.Sp Go.Proofs.YtkcnjhkbcjnbkaaGreatDoor.Sr Go.Proofs.YtkcnjhkbcjnbkaaGreatDoor.Me Go.Proofs.YtkcnjhkbcjnbkaaGreatDoor.Mi Go.Proofs.YtkcnjhkbcjnbkaaGreatDoor.Fm Go.Proofs.YtkcnjhkbcjnbkaaGreatDoor.Fa Go.Proofs.YtkcnjhkbcjnbkaaGreatDoor.Ga Go.Proofs.YtkcnjhkbcjnbkaaGreatDoor.Im Go.Proofs.YtkcnjhkbcjnbkaaGreatDoor.Ia Go.Proofs.YtkcnjhkbcjnbkaaGreatDoor.Ib Go.Proofs.YtkcnjhkbcjnbkaaGreatDoor.Ih Go.Proofs.YtkcnjhkbcjnbkaaGreatDoor.Ik Go.Proofs.YtkcnjhkbcjnbkaaGreatDoor.Is Go.Proofs.YtkcnjhkbcjnbkaaGreatDoor.Ira Go.Proofs.YtkcnjhkbcjnbkaaGreatDoor.Irb Go.Proofs.YtkcnjhkbcjnbkaaGreatDoor.Irc Go.Proofs.YtkcnjhkbcjnbkaaGreatDoor.Ird

/-- A Made of nothing. -/
def mz : Array Value := #[.string ⟨#[]⟩, .slice none 0 0, .int .i64 0, .int .i64 0]
/-- All's work, on its way: x has been made, L the blocks' beginnings. -/
structure aw (w : World) (Y g r : Nat) (t : ByteArray) (q : List UInt8) (a : Nat) (v : Value) (x : List UInt8) (vS : Value) (L : List (Nat × Nat)) (u : World) : Prop where
  k : wk u g r t a v (q ++ x) q.length
  b : Below w.heap.size w u
  lo : w.heap.size ≤ g ∧ w.heap.size ≤ r ∧ ∀ i, v.ownBlock = some i → w.heap.size ≤ i
  y : Blk u Y 30 mz
  s : rst w.heap.size u vS L
section
variable {w u u2 : World} {Y g r : Nat} {t : ByteArray} {q : List UInt8} {a : Nat} {v : Value} {x : List UInt8} {vS : Value} {L : List (Nat × Nat)}
theorem rst_ow {v2 : Value} {c : List UInt8} {pre : Nat} {B : Nat} (h : rst B u vS L) (k : wk u g r t a v2 c pre) (o : Only (ow g r v2) u u2) : rst B u2 vS L := h.only o (fun i hi hS => by
  rcases h.2 with ⟨rfl, _⟩ | ⟨b, cap, cur, rfl, _, hb, _⟩
  · cases hi
  · obtain rfl : b = i := Option.some.inj hi
    rcases hS with rfl | rfl | hv
    · exact Blk.apart (show Blk u b 71 cur from hb) k.1 (by decide) rfl
    · exact Blk.apart (show Blk u b 71 cur from hb) k.2.1 (by decide) rfl
    · exact k.2.2.1.apart (show Blk u b 71 cur from hb) (by decide) b hv rfl)
theorem aw.on {a2 : Nat} {v2 : Value} {x2 : List UInt8} (h : aw w Y g r t q a v x vS L u) (k : wk u2 g r t a2 v2 (q ++ x2) q.length) (o : Only (ow g r v) u u2) (l : lat u v v2) : aw w Y g r t q a2 v2 x2 vS L u2 :=
  ⟨k, o.below h.b h.b.size (fun i hi => by
      rcases hi with rfl | rfl | e
      · exact h.lo.1
      · exact h.lo.2.1
      · exact h.lo.2.2 i e), ⟨h.lo.1, h.lo.2.1, fun i hi => by
      rcases l i hi with e | e
      · exact h.lo.2.2 i e
      · exact Nat.le_trans h.b.size e⟩, blk_ow h.y h.k o (by decide) (by decide) (by decide), rst_ow h.s h.k o⟩
theorem aw.below (h : aw w Y g r t q a v x vS L u) (k : Below u.heap.size u u2) : aw w Y g r t q a v x vS L u2 :=
  ⟨h.k.below k, h.b.trans (k.mono h.b.size), h.lo, h.y.below k, h.s.below k⟩
theorem aw.moved {a2 : Nat} (h : aw w Y g r t q a v x vS L u) (o : Only (At r) u u2) (r2 : rr u2 r t a2) : aw w Y g r t q a2 v x vS L u2 := h.on (h.k.moved o r2).1 (h.k.moved o r2).2 (lat.refl _ _)
theorem rbuf_drop {w : World} {b n cap : Nat} {l : List UInt8} (h : rbuf w (.slice (some ⟨b, 0, none⟩) n cap) l) {x : Nat} (hx : x ≤ l.length) :
    ∃ A', (∀ u : World, (Instr.slice 53 (.slice (some ⟨b, 0, none⟩) n cap) (some (.int .i64 (x : Int))) none none).run Tryz.prog u = .ok (.slice A' (n - x) (cap - x)) u) ∧ ∀ u, Below w.heap.size w u → (convert 53 9 (.slice A' (n - x) (cap - x))).run Tryz.prog u = .ok (.string ⟨(l.drop x).toArray⟩) u := by
  obtain ⟨b', cap', e, hcap, _⟩ := h.block
  have e1 : n = l.length := (Value.slice.inj e).2.1
  have e2 : cap = cap' := (Value.slice.inj e).2.2
  rw [← e2] at hcap
  clear e e2
  subst e1
  have h1 : (0 : Int) ≤ (x : Int) := by omega
  have h2 : (x : Int) ≤ (l.length : Int) := by omega
  refine ⟨if cap = x then some ⟨b, 0, none⟩ else (some (⟨b, 0, none⟩ : Addr)).map (·.add (x * 1)), fun u => ?_, fun u hu => rbuf_string (h.below hu) hx (fun h0 => ?_)⟩
  · clear h
    generalize l.length = n at *
    go_simp
  · rw [if_neg (by omega)]
    simp [Addr.add]
    exact fun e => e.symm
theorem rst_blk {B i : Nat} (h : rst B u vS L) (hi : vS.ownBlock = some i) : ∃ cur, Blk u i 71 cur := by
  rcases h.2 with ⟨rfl, _⟩ | ⟨b, cap, cur, rfl, _, hb, _⟩
  · cases hi
  · obtain rfl : b = i := Option.some.inj hi
    exact ⟨cur, hb⟩
theorem rst_blk_off {B y : Nat} {ty : TypeId} {cs : Array Value} (h : rst B u vS L) (k : Blk u y ty cs) (o : Only (fun i => vS.ownBlock = some i) u u2) (hne : 71 ≠ ty) : Blk u2 y ty cs := k.only o (fun e => by
  obtain ⟨cur, hb⟩ := rst_blk h e
  exact Blk.apart hb k hne rfl)
theorem rst_lst_off {B : Nat} {vl : Value} {l : List Nat} (h : rst B u vS L) (k : lst u vl l) (o : Only (fun i => vS.ownBlock = some i) u u2) : lst u2 vl l := k.off o (fun i hi => by
  obtain ⟨cur, hb⟩ := rst_blk h hi
  exact ⟨_, _, hb, by decide⟩)
theorem aw.start {vS2 : Value} {L2 : List (Nat × Nat)} (h : aw w Y g r t q a v x vS L u) (o : Only (fun i => vS.ownBlock = some i) u u2) (b : Below w.heap.size w u2) (s : rst w.heap.size u2 vS2 L2) : aw w Y g r t q a v x vS2 L2 u2 :=
  ⟨⟨rst_blk_off h.s h.k.1 o (by decide), rst_blk_off h.s h.k.2.1 o (by decide), h.k.2.2.1.only o (fun i hi hS => by
      obtain ⟨cur, hb⟩ := rst_blk h.s hS
      exact h.k.2.2.1.apart hb (by decide) i hi rfl), h.k.2.2.2⟩, b, h.lo, rst_blk_off h.s h.y o (by decide), s⟩
/-- What All answers. -/
def allR (w : World) (t : ByteArray) (a0 : Nat) (q : List UInt8) (e : Ending) (w' : World) : Prop :=
  ∃ vS z, e = .returned (.agg #[.string ⟨(tot t a0 q).2.2.2.toArray⟩, vS, .int .i64 z, .int .i64 (tot t a0 q).1]) ∧ rst w.heap.size w' vS (tot t a0 q).2.1 ∧ ((tot t a0 q).1 = 0 → z = ((tot t a0 q).2.2.1 : Int)) ∧ Below w.heap.size w w'
end
theorem one4 (b : ByteArray) (k z : Int) (A1 : Option Addr) (n1 c1 : Nat) : (#[.string b, .slice A1 n1 c1, .int .i64 k, .int .i64 z] : Array Value).all (·.oneCell') = true := by simp [Value.oneCell']
theorem aw.done {w u u2 : World} {g r : Nat} {t : ByteArray} {q : List UInt8} {a a0 p : Nat} {v : Value} {x : List UInt8} {vS : Value} {L : List (Nat × Nat)} (W : aw w w.heap.size g r t q a v x vS L u) (hu : Below u.heap.size u u2) {er : Int} (hT : tot t a0 q = (er, L, p, x)) (hz : er = 0 → a = p) (cs : Array Value) :
    allR w t a0 q (.returned (.agg #[.string ⟨x.toArray⟩, vS, .int .i64 (a : Int), .int .i64 er])) (u2.setRow w.heap.size cs) := by
  have W2 := W.below hu
  have o : Only (fun i => i = w.heap.size) u2 (u2.setRow w.heap.size cs) := only_row (S := fun i => i = w.heap.size) (Only.refl _ _) rfl _
  refine ⟨vS, (a : Int), by rw [hT], ?_, fun e => ?_, o.below W2.b W2.b.size (fun i hi => by rw [hi]; exact Nat.le_refl _)⟩
  · rw [hT]
    refine W2.s.only o (fun i hi hS => ?_)
    rcases W2.s.2 with ⟨rfl, _⟩ | ⟨b, cap, cur, rfl, _, hb, _⟩
    · cases hi
    · obtain rfl : b = i := Option.some.inj hi
      exact Blk.apart (show Blk u2 b 71 cur from hb) W2.y (by decide) hS
  · rw [hT] at e ⊢
    rw [hz e]
theorem sizeM : (Tryz.prog.info? 30).map (fun i => i.size) = some 4 := by kernel_rfl
set_option maxHeartbeats 4000000 in
set_option maxRecDepth 100000 in
theorem rAll_short {t q : ByteArray} {a0 : Nat} {w : World} (h6 : t.size ≤ 600) (ha : a0 ≤ 8 * t.size) (hq : q.size ≤ 32768) :
    Calls Tryz.prog 8 #[.string t, .int .i64 (a0 : Int), .string q] w (allR w t a0 q.data.toList) := by
  have HQ := Lib.hid hq
  obtain ⟨Q, hQ⟩ : ∃ Q, Q = q.data.toList := ⟨_, rfl⟩
  rw [← hQ]
  have HQQ := Lib.hid hQ
  have HQL : Hid (Q.length = q.size) := Lib.hid (by rw [hQ]; exact Array.length_toList)
  clear hQ
  have HA0 := Lib.hid ha
  have H6 := Lib.hid h6
  have hq' : ¬ (32768 : Int) < (q.size : Int) := by omega
  have HN := Lib.hid (rNew_ok t a0 (w.alloc (.cells mz 30)) (by omega) ha)
  obtain ⟨N, hN⟩ : ∃ N, N = num t.data.toList := ⟨_, rfl⟩
  obtain ⟨M, hM⟩ : ∃ M, M = 8 * t.size := ⟨_, rfl⟩
  have HNN := Lib.hid hN
  have HMM := Lib.hid hM
  have HT : Hid (tot t a0 Q = allM N M a0 Q 0) := Lib.hid (by rw [hN, hM]; rfl)
  have HQS : Hid (Q.length ≤ 32768) := Lib.hid (by rw [HQL.out]; exact hq)
  clear hN hM hq ha h6
  go_enter Tryz.func8, Tryz.ntmps8
  go_wp2_with fail
  refine HN.out.mono ?_
  rintro e w2 ⟨r, rfl, hr, hrr, hb2⟩
  rw [size_alloc] at hrr
  have B2 : Hid (Below w.heap.size w w2) := Lib.hid (((Below.refl _ w).alloc (Nat.le_refl _) (.cells mz 30)).trans (hb2.mono (by rw [size_alloc]; omega)))
  have Y2 : Hid (Blk w2 w.heap.size 30 mz) := Lib.hid ((Blk.fresh w _ _).below hb2)
  have R2 := Lib.hid hr
  clear hr hb2 HN
  have hcv := run_bytes_of_string (P := Tryz.prog) w2 9 53 5 q Tryz.underlying9 Tryz.underlying53 Tryz.underlying5
  have hnew := rbuf_new w2 q
  rw [← HQQ.out] at hnew
  generalize grownCap w2 q.size 0 5 = cap at hcv hnew
  obtain ⟨w3, hw3⟩ : ∃ w3, w3 = w2.drew.alloc (.cells (bytesRow q cap) 5 ((bytesRow q cap).size, (bytesRow q cap).size + 1)) := ⟨_, rfl⟩
  rw [← hw3] at hcv hnew
  have B3 : Hid (Below w2.heap.size w2 w3) := Lib.hid (by rw [hw3]; exact ((Below.refl _ w2).drew).alloc (Nat.le_refl _) _)
  have Z3 : w3.heap.size = w2.heap.size + 1 := by rw [hw3]; exact size_alloc _ _
  obtain ⟨w4, hw4⟩ : ∃ w4, w4 = w3.alloc (.cells #[.pointer (some ⟨r, 0, none⟩), .slice (some ⟨w2.heap.size, 0, none⟩) q.size cap, .int .i64 (q.size : Int)] 64) := ⟨_, rfl⟩
  obtain ⟨G, hG⟩ : ∃ G, G = w3.heap.size := ⟨_, rfl⟩
  have B4 : Below w3.heap.size w3 w4 := by rw [hw4]; exact (Below.refl _ w3).alloc (Nat.le_refl _) _
  have hql := HQL.out
  have W4 : Hid (aw w w.heap.size G r t Q a0 (.slice (some ⟨w2.heap.size, 0, none⟩) q.size cap) [] (.slice none 0 0) [] w4) := Lib.hid
    ⟨⟨by rw [hql, hw4, hG]; exact Blk.fresh _ _ _, (R2.out.below B3.out).below B4, by rw [List.append_nil]; exact hnew.below B4, by simp⟩,
      (B2.out.trans (B3.out.mono B2.out.size)).trans (B4.mono (by have := B2.out.size; omega)), ⟨by have := B2.out.size; omega, by omega, fun i hi => by obtain rfl : w2.heap.size = i := Option.some.inj hi; exact B2.out.size⟩,
      (Y2.out.below B3.out).below B4, rst_nil _ _⟩
  clear B2 Y2 R2 hnew hw3 B3 B4 hql hrr Z3
  go_wp2_with fail
  rw [← hw4, ← hG]
  clear hw4 hG hcv
  go_loopg [10] (M - a0) (fun gk s10 wr => ∃ (a : Nat) (v : Value) (x : List UInt8) (L : List (Nat × Nat)) (A : Option Addr) (n cp : Nat), s10 = .slice A n cp ∧ Hid (n = L.length) ∧ Hid (gk = M - a) ∧ Hid (a ≤ M) ∧ Hid (L.length ≤ a ∧ x.length + 258 * (M - a) ≤ 258 * M) ∧ Hid (aw w w.heap.size G r t Q a v x (.slice A n cp) L wr) ∧ Hid (allM N M a0 Q 0 = ((allM N M a (Q ++ x) x.length).1, L ++ (allM N M a (Q ++ x) x.length).2.1, (allM N M a (Q ++ x) x.length).2.2.1, x ++ (allM N M a (Q ++ x) x.length).2.2.2)))
  case atStart => exact ⟨a0, _, [], [], none, 0, 0, rfl, Lib.hid rfl, Lib.hid rfl, Lib.hid (by rw [HMM.out]; exact HA0.out), Lib.hid ⟨Nat.zero_le _, by show 0 + 258 * (M - a0) ≤ 258 * M; omega⟩, W4, Lib.hid (by rw [List.append_nil, List.nil_append, List.nil_append]; rfl)⟩
  case round =>
    obtain ⟨a, v, x, L, A, n, cp, rfl, HLN, HG, HA, HLA, W, HE⟩ := hrel
    clear W4
    have c1 : wr.cell? ⟨r, 1, none⟩ = some (.int .i64 (a : Int)) := W.out.k.2.1.cell 1
    have HRD := Lib.hid (rRead_all W.out.k.2.1 (by have := H6.out; omega) (by rw [← HMM.out]; exact HA.out))
    unfold rReads at HRD
    rw [← HNN.out, ← HMM.out] at HRD
    obtain ⟨er, her⟩ : ∃ er, er = (headM N M a).1 := ⟨_, rfl⟩
    obtain ⟨hd, hhd⟩ : ∃ hd, hd = (headM N M a).2.1 := ⟨_, rfl⟩
    obtain ⟨a1, ha1⟩ : ∃ a1, a1 = (headM N M a).2.2 := ⟨_, rfl⟩
    rw [← her, ← hhd, ← ha1] at HRD
    have HER := Lib.hid her
    have HHD := Lib.hid hhd
    have HA1 := Lib.hid ha1
    clear her hhd ha1
    go_wp2_with fail
    refine HRD.out.mono ?_
    rintro e w3 ⟨b, kk, z, A1, n1, cp1, A2, n2, cp2, rfl, hH, r3, o3⟩
    have W3 := W.out.moved o3 r3
    obtain ⟨w4, hw4⟩ : ∃ w4, w4 = w3.alloc (.cells #[.bool b, .int .i64 kk, .int .i64 z, .slice A1 n1 cp1, .slice A2 n2 cp2] 68) := ⟨_, rfl⟩
    obtain ⟨G2, hG2⟩ : ∃ G2, G2 = w3.heap.size := ⟨_, rfl⟩
    have KH : Hid (Blk w4 G2 68 #[.bool b, .int .i64 kk, .int .i64 z, .slice A1 n1 cp1, .slice A2 n2 cp2]) := Lib.hid (by rw [hw4, hG2]; exact Blk.fresh w3 _ _)
    have B4 : Below w3.heap.size w3 w4 := by rw [hw4]; exact (Below.refl _ w3).alloc (Nat.le_refl _) _
    have W4 := Lib.hid (W3.below B4)
    have HH4 := Lib.hid (hH.below B4)
    clear hH r3 o3 W3 B4 HRD c1
    by_cases h0 : er = 0
    · have hne : (er == 0) = true := by simp [h0]
      have HR0 : Hid ((headM N M a).1 = 0) := Lib.hid (by rw [← HER.out]; exact h0)
      subst h0
      obtain ⟨v1, v2, hve, lv1, lv2⟩ := HH4.out
      have hb : b = hd.fin ∧ kk = (hd.kind : Int) ∧ z = (hd.size : Int) ∧ Value.slice A1 n1 cp1 = v1 ∧ Value.slice A2 n2 cp2 = v2 := by
        unfold hv at hve
        injection hve with hve
        simp only [Array.mk.injEq, List.cons.injEq, Value.bool.injEq, Value.int.injEq, true_and, and_true] at hve
        exact hve
      obtain ⟨hb1, hb2, hb3, hb4, hb5⟩ := hb
      have LV1 : Hid (lst w4 (.slice A1 n1 cp1) hd.lits) := Lib.hid (by rw [hb4]; exact lv1)
      have LV2 : Hid (lst w4 (.slice A2 n2 cp2) hd.dists) := Lib.hid (by rw [hb5]; exact lv2)
      have HB1 := Lib.hid hb1
      have HB2 := Lib.hid hb2
      have HB3 := Lib.hid hb3
      clear hve hb1 hb2 hb3 hb4 hb5 lv1 lv2 HH4
      obtain ⟨bz, cz, hvz, _⟩ := W4.out.k.2.2.1.block
      obtain ⟨nz, hnz⟩ : ∃ nz, nz = (Q ++ x).length := ⟨_, rfl⟩
      rw [← hnz] at hvz
      subst hvz
      obtain ⟨P, hP⟩ : ∃ P, P = Q.length := ⟨_, rfl⟩
      obtain ⟨xl, hxl⟩ : ∃ xl, xl = x.length := ⟨_, rfl⟩
      have hsub : (nz : Int) - (P : Int) = (xl : Int) := by rw [hP, hnz, hxl, List.length_append]; omega
      have HP := Lib.hid hP
      have HXL := Lib.hid hxl.symm
      have HQX : Hid ((Q ++ x).length + 258 * (M - a1) ≤ 1900000 ∧ xl ≤ 1900000) := Lib.hid (by
        have h1 := HLA.out.2; have h2 := HA.out; have h3 := HMM.out; have h4 := H6.out; have h5 := HQS.out; have h6 := (head_facts HR0.out).2.1
        rw [← HA1.out] at h6
        rw [List.length_append]; omega)
      have e1 : w4.cell? ⟨G, 1, none⟩ = some (.slice (some ⟨bz, 0, none⟩) nz cz) := W4.out.k.1.cell 1
      have e2 : w4.cell? ⟨G, 2, none⟩ = some (.int .i64 (P : Int)) := by rw [hP]; exact W4.out.k.1.cell 2
      have hO : w4.ownsRow w.heap.size 71 2 (.slice A n cp) n (Ls L) := by
        have k := W4.out.s
        unfold rst at k
        rw [← HLN.out] at k
        exact k
      have hxb : (xl : Int) ≤ 2000000 := by have := HQX.out.2; omega
      have hxw : IntKind.i64.wrap (xl : Int) = (xl : Int) := by rw [IntKind.wrap_i64]; omega
      have hbs := W4.out.b.size
      have hnb : n ≤ 5000 := by rw [HLN.out]; have h1 := HLA.out.1; have h2 := HA.out; have h3 := HMM.out; have h4 := H6.out; omega
      obtain ⟨i0, hi, hz0, hz1, hz2⟩ := info_parts infoRs
      clear hnz hP hxl
      go_wp2_with fail
      rw [← hw4, ← hG2]
      clear hw4 hG2
      go_wp2_with fail
      go_region_law (refine step_append_lies _ (by rfl) _ _ _ (by rfl) w.heap.size 71 i0 _ 2 16 Tryz.underlying28 hi hz0 hz1 hz2 rfl (by omega) (.slice A n cp) n (Ls L) (by rfl) ((hO.alloc _).drew) ⟨w4.heap.size, 0, none⟩ 1 1 [.int .i64 (a : Int), .int .i64 (xl : Int)] (by rfl) (by rfl) (World.news_of_block (cs := #[.int .i64 (a : Int), .int .i64 (xl : Int)]) (t := 71) (fr := (0, 0)) (heap_alloc_new _ _)) (by simp [Value.oneCell']) (by omega) (by unfold maxLen; omega) (by omega) (by simp; omega) (w4.heap.size + 1) (by simp) ?_; intro gg cap1 w5 hown1 hgrow hat hlt)
      all_goals
        have O5 : Only (fun i => (Value.slice A n cp).ownBlock = some i) w4 w5 := (((Only.refl _ w4).alloc _).drew).grown hgrow (fun i hi _ => hi)
        have KB : Below w.heap.size w w5 := (W4.out.b.alloc hbs _).drew.grown hgrow (by simp; omega) (fun q hq => (hO.lt q hq).1)
        have KR : rst w.heap.size w5 (.slice (some ⟨gg, 0, none⟩) (n + 1) cap1) (L ++ [(a, xl)]) := by
          have hlen : (L ++ [(a, xl)]).length = n + 1 := by rw [List.length_append, HLN.out]; rfl
          unfold rst
          rw [hlen, Ls_append]
          exact hown1
        have W5 := Lib.hid (W4.out.start O5 KB KR)
        have KH5 := Lib.hid (rst_blk_off W4.out.s KH.out O5 (by decide))
        have LV15 := Lib.hid (rst_lst_off W4.out.s LV1.out O5)
        have LV25 := Lib.hid (rst_lst_off W4.out.s LV2.out O5)
        have k1 : w5.cell? ⟨G2, 1, none⟩ = some (.int .i64 kk) := KH5.out.cell 1
        obtain ⟨R, hR⟩ : ∃ R, R = bodM hd N M a1 (Q ++ x) := ⟨_, rfl⟩
        have hbf := (bod_facts (N := N) (head_15 HR0.out).1 (head_15 HR0.out).2 (head_facts HR0.out).2.2 (Q ++ x)).2.2.2
        rw [← HHD.out, ← HA1.out, ← hR] at hbf
        have hnx := head_nx HR0.out
        rw [← HHD.out, ← HA1.out] at hnx
        have ha1M : a1 ≤ M := by rw [HA1.out]; exact (head_facts HR0.out).2.2
        have ha1a : a ≤ a1 := by rw [HA1.out]; have := (head_facts HR0.out).2.1; omega
        by_cases hk : hd.kind = 0
        · have hkk : kk = 0 := by rw [HB2.out, hk]; rfl
          have hnx2 : a1 % 8 = 0 ∧ hd.size ≤ 65535 := by unfold nxOf at hnx; rw [if_pos hk] at hnx; exact hnx
          have hR2 : R = stoW N M a1 hd.size := by rw [hR]; unfold bodM stoW; rw [if_pos hk]
          have hcall := rstored_any HB3.out hnx2.2 W5.out.k (by have := H6.out; omega) (by rw [← HMM.out]; exact ha1M) (by have := HQX.out.1; have := hnx2.2; omega)
          rw [← HNN.out, ← HMM.out, ← hR2] at hcall
          obtain ⟨E6, p6, X6⟩ := R
          have HCALL := Lib.hid hcall
          have HBR := Lib.hid hR
          have HBF : Hid (E6 = 0 → X6.length + 258 * (M - p6) ≤ 258 * (M - a1)) := Lib.hid hbf
          have HAA : Hid (a ≤ a1) := Lib.hid ha1a
          clear hbf
          have k2 : w5.cell? ⟨G2, 2, none⟩ = some (.int .i64 z) := KH5.out.cell 2
          clear hown1 hgrow hat hlt hO O5 KB KR hcall hR hR2 hnx hnx2 ha1M ha1a hk e1 e2 hsub hxw hxb
          subst hkk
          go_wp2_with fail
          refine HCALL.out.mono ?_
          rintro e w6 ⟨rfl, v6, a6, k6, h6, e6, o6, l6⟩
          rw [List.append_assoc] at k6
          have W6 := Lib.hid (W5.out.on k6 o6 l6)
          have KH6 := blk_ow KH5.out W5.out.k o6 (by decide) (by decide) (by decide)
          have HA6 : Hid (a6 ≤ M) := Lib.hid (by rw [HMM.out]; exact h6)
          have HE6 := Lib.hid e6
          have b0 : w6.cell? ⟨G2, 0, none⟩ = some (.bool b) := KH6.cell 0
          clear k6 o6 l6 KH6 h6 e6
          by_cases hE6 : E6 = 0
          · cases hb : b
            · rw [hb] at b0
              have HAL := Lib.hid (all_next (c := Q ++ x) (k := x.length) HR0.out (by rw [← HHD.out, ← HA1.out, ← HBR.out]; exact hE6) (by rw [← HHD.out, ← HB1.out]; exact hb) (b := (E6, p6, X6)) (by rw [HBR.out, HHD.out, HA1.out]))
              have HPE : Hid (a6 = p6) := Lib.hid (HE6.out hE6)
              have HPL : Hid (a < a6) := Lib.hid (by
                have h9 := (head_bod HR0.out (Q ++ x)).1
                rw [← HHD.out, ← HA1.out, ← HBR.out] at h9
                rw [HPE.out]; exact h9)
              subst hE6
              go_wp2
              go_roundg (M - a6)
              case measure => have := HG.out; have := HPL.out; have := HA6.out; omega
              case rel =>
                refine ⟨a6, v6, x ++ X6, L ++ [(a, xl)], some ⟨gg, 0, none⟩, n + 1, cap1, rfl, Lib.hid (by rw [List.length_append, HLN.out]; rfl), Lib.hid rfl, HA6, Lib.hid ⟨by rw [List.length_append]; have h8 := HLA.out.1; have h7 := HPL.out; show L.length + 1 ≤ a6; omega, by rw [List.length_append]; have h8 := HLA.out.2; have h9 := HBF.out (by trivial); rw [← HPE.out] at h9; have := HAA.out; have := HA.out; omega⟩, W6, Lib.hid ?_⟩
                rw [HE.out, HAL.out, HXL.out, HPE.out]
                simp only [List.append_assoc, List.length_append, List.cons_append, List.nil_append, HXL.out]
            · rw [hb] at b0
              have HAL := Lib.hid (all_stop (c := Q ++ x) (k := x.length) HR0.out (.inr (by rw [← HHD.out, ← HB1.out]; exact hb)))
              rw [← HHD.out, ← HA1.out, ← HBR.out] at HAL
              have HPE : Hid (a6 = p6) := Lib.hid (HE6.out hE6)
              subst hE6
              obtain ⟨bz2, cz2, hvz2, _⟩ := W6.out.k.2.2.1.block
              obtain ⟨nz2, hnz2⟩ : ∃ nz2, nz2 = (Q ++ (x ++ X6)).length := ⟨_, rfl⟩
              rw [← hnz2] at hvz2
              subst hvz2
              have hPz2 : P ≤ nz2 := by rw [HP.out, hnz2, List.length_append]; omega
              obtain ⟨Az, hsl, hcz⟩ := rbuf_drop W6.out.k.2.2.1 (x := P) (by rw [← hnz2]; exact hPz2)
              rw [HP.out, List.drop_left, ← HP.out] at hcz
              have hcz := hcz w6.drew ((Below.refl _ w6).drew)
              have hsl := hsl w6.drew
              have e1 : w6.cell? ⟨G, 1, none⟩ = some (.slice (some ⟨bz2, 0, none⟩) nz2 cz2) := W6.out.k.1.cell 1
              have e2 : w6.cell? ⟨G, 2, none⟩ = some (.int .i64 (P : Int)) := by rw [HP.out]; exact W6.out.k.1.cell 2
              have e3 : w6.cell? ⟨r, 1, none⟩ = some (.int .i64 (a6 : Int)) := W6.out.k.2.1.cell 1
              clear hnz2
              go_wp2_with fail
              go_still_tail 17, (by kernel_rfl)
              have HY : Hid (Blk w6.drew w.heap.size 30 mz) := Lib.hid (W6.out.y.below ((Below.refl _ w6).drew))
              go_wp2_with (refine wpList_store_row rfl 30 _ _ rfl w.heap.size #[.string ⟨(x ++ X6).toArray⟩, .slice (some ⟨gg, 0, none⟩) (n + 1) cap1, .int .i64 (a6 : Int), .int .i64 0] rfl rfl _ _ HY.out sizeM rfl (one4 _ _ _ _ _ _) ?_)
              (try simp only [Exit.inBlock, Exit.then])
              refine bodyPost_ret (v := .agg #[.string ⟨(x ++ X6).toArray⟩, .slice (some ⟨gg, 0, none⟩) (n + 1) cap1, .int .i64 (a6 : Int), .int .i64 0]) (results_cell_row rfl _ _ w.heap.size 30 _ _ _ rfl (setRow_heap _ _ _ _ _ _ HY.out) Tryz.underlying30 rfl sizeM) rfl ?_
              refine W6.out.done ((Below.refl _ w6).drew) (p := p6) ?_ (fun _ => HPE.out) _
              rw [HT.out, HE.out, HAL.out, HXL.out]

          · have hE7 : (E6 != 0) = true := by simp [hE6]
            have HAL := Lib.hid (all_stop (c := Q ++ x) (k := x.length) HR0.out (.inl (by rw [← HHD.out, ← HA1.out, ← HBR.out]; exact hE6)))
            rw [← HHD.out, ← HA1.out, ← HBR.out] at HAL
            have HE7 := Lib.hid hE6
            clear hE6
            obtain ⟨bz2, cz2, hvz2, _⟩ := W6.out.k.2.2.1.block
            obtain ⟨nz2, hnz2⟩ : ∃ nz2, nz2 = (Q ++ (x ++ X6)).length := ⟨_, rfl⟩
            rw [← hnz2] at hvz2
            subst hvz2
            have hPz2 : P ≤ nz2 := by rw [HP.out, hnz2, List.length_append]; omega
            obtain ⟨Az, hsl, hcz⟩ := rbuf_drop W6.out.k.2.2.1 (x := P) (by rw [← hnz2]; exact hPz2)
            rw [HP.out, List.drop_left, ← HP.out] at hcz
            have hcz := hcz w6.drew ((Below.refl _ w6).drew)
            have hsl := hsl w6.drew
            have e1 : w6.cell? ⟨G, 1, none⟩ = some (.slice (some ⟨bz2, 0, none⟩) nz2 cz2) := W6.out.k.1.cell 1
            have e2 : w6.cell? ⟨G, 2, none⟩ = some (.int .i64 (P : Int)) := by rw [HP.out]; exact W6.out.k.1.cell 2
            have e3 : w6.cell? ⟨r, 1, none⟩ = some (.int .i64 (a6 : Int)) := W6.out.k.2.1.cell 1
            clear hnz2
            go_wp2_with fail
            go_still_tail 17, (by kernel_rfl)
            have HY : Hid (Blk w6.drew w.heap.size 30 mz) := Lib.hid (W6.out.y.below ((Below.refl _ w6).drew))
            go_wp2_with (refine wpList_store_row rfl 30 _ _ rfl w.heap.size #[.string ⟨(x ++ X6).toArray⟩, .slice (some ⟨gg, 0, none⟩) (n + 1) cap1, .int .i64 (a6 : Int), .int .i64 E6] rfl rfl _ _ HY.out sizeM rfl (one4 _ _ _ _ _ _) ?_)
            (try simp only [Exit.inBlock, Exit.then])
            refine bodyPost_ret (v := .agg #[.string ⟨(x ++ X6).toArray⟩, .slice (some ⟨gg, 0, none⟩) (n + 1) cap1, .int .i64 (a6 : Int), .int .i64 E6]) (results_cell_row rfl _ _ w.heap.size 30 _ _ _ rfl (setRow_heap _ _ _ _ _ _ HY.out) Tryz.underlying30 rfl sizeM) rfl ?_
            refine W6.out.done ((Below.refl _ w6).drew) (p := p6) ?_ (fun e => absurd e HE7.out) _
            rw [HT.out, HE.out, HAL.out, HXL.out]

        · have hkk : (kk == 0) = false := by rw [HB2.out]; simp; omega
          have hnx2 : code hd.lits ∧ code hd.dists := by unfold nxOf at hnx; rw [if_neg hk] at hnx; exact hnx
          have hR2 : R = codM hd.lits hd.dists N M a1 (Q ++ x) := by rw [hR]; unfold bodM; rw [if_neg hk]
          have hcall := rcoded_any (fb := b) (kd := kk) (z := z) W5.out.k LV15.out LV25.out hnx2.1 hnx2.2 (by have := H6.out; omega) (by rw [← HMM.out]; exact ha1M) (by rw [← HMM.out]; have := HQX.out.1; omega)
          rw [← HNN.out, ← HMM.out, ← hR2] at hcall
          obtain ⟨E6, p6, X6⟩ := R
          have HCALL := Lib.hid hcall
          have HBR := Lib.hid hR
          have HBF : Hid (E6 = 0 → X6.length + 258 * (M - p6) ≤ 258 * (M - a1)) := Lib.hid hbf
          have HAA : Hid (a ≤ a1) := Lib.hid ha1a
          clear hbf
          clear hown1 hgrow hat hlt hO O5 KB KR hcall hR hR2 hnx hnx2 ha1M ha1a hk e1 e2 hsub hxw hxb
          go_wp2_with (refine wpList_load_row rfl 68 _ rfl G2 rfl _ _ _ _ KH5.out Tryz.underlying68 rfl Kn.sizeR ?_)
          refine HCALL.out.mono ?_
          rintro e w6 ⟨rfl, v6, a6, k6, h6, e6, o6, l6⟩
          rw [List.append_assoc] at k6
          have W6 := Lib.hid (W5.out.on k6 o6 l6)
          have KH6 := blk_ow KH5.out W5.out.k o6 (by decide) (by decide) (by decide)
          have HA6 : Hid (a6 ≤ M) := Lib.hid (by rw [HMM.out]; exact h6)
          have HE6 := Lib.hid e6
          have b0 : w6.cell? ⟨G2, 0, none⟩ = some (.bool b) := KH6.cell 0
          clear k6 o6 l6 KH6 h6 e6
          by_cases hE6 : E6 = 0
          · cases hb : b
            · rw [hb] at b0
              have HAL := Lib.hid (all_next (c := Q ++ x) (k := x.length) HR0.out (by rw [← HHD.out, ← HA1.out, ← HBR.out]; exact hE6) (by rw [← HHD.out, ← HB1.out]; exact hb) (b := (E6, p6, X6)) (by rw [HBR.out, HHD.out, HA1.out]))
              have HPE : Hid (a6 = p6) := Lib.hid (HE6.out hE6)
              have HPL : Hid (a < a6) := Lib.hid (by
                have h9 := (head_bod HR0.out (Q ++ x)).1
                rw [← HHD.out, ← HA1.out, ← HBR.out] at h9
                rw [HPE.out]; exact h9)
              subst hE6
              go_wp2
              go_roundg (M - a6)
              case measure => have := HG.out; have := HPL.out; have := HA6.out; omega
              case rel =>
                refine ⟨a6, v6, x ++ X6, L ++ [(a, xl)], some ⟨gg, 0, none⟩, n + 1, cap1, rfl, Lib.hid (by rw [List.length_append, HLN.out]; rfl), Lib.hid rfl, HA6, Lib.hid ⟨by rw [List.length_append]; have h8 := HLA.out.1; have h7 := HPL.out; show L.length + 1 ≤ a6; omega, by rw [List.length_append]; have h8 := HLA.out.2; have h9 := HBF.out (by trivial); rw [← HPE.out] at h9; have := HAA.out; have := HA.out; omega⟩, W6, Lib.hid ?_⟩
                rw [HE.out, HAL.out, HXL.out, HPE.out]
                simp only [List.append_assoc, List.length_append, List.cons_append, List.nil_append, HXL.out]
            · rw [hb] at b0
              have HAL := Lib.hid (all_stop (c := Q ++ x) (k := x.length) HR0.out (.inr (by rw [← HHD.out, ← HB1.out]; exact hb)))
              rw [← HHD.out, ← HA1.out, ← HBR.out] at HAL
              have HPE : Hid (a6 = p6) := Lib.hid (HE6.out hE6)
              subst hE6
              obtain ⟨bz2, cz2, hvz2, _⟩ := W6.out.k.2.2.1.block
              obtain ⟨nz2, hnz2⟩ : ∃ nz2, nz2 = (Q ++ (x ++ X6)).length := ⟨_, rfl⟩
              rw [← hnz2] at hvz2
              subst hvz2
              have hPz2 : P ≤ nz2 := by rw [HP.out, hnz2, List.length_append]; omega
              obtain ⟨Az, hsl, hcz⟩ := rbuf_drop W6.out.k.2.2.1 (x := P) (by rw [← hnz2]; exact hPz2)
              rw [HP.out, List.drop_left, ← HP.out] at hcz
              have hcz := hcz w6.drew ((Below.refl _ w6).drew)
              have hsl := hsl w6.drew
              have e1 : w6.cell? ⟨G, 1, none⟩ = some (.slice (some ⟨bz2, 0, none⟩) nz2 cz2) := W6.out.k.1.cell 1
              have e2 : w6.cell? ⟨G, 2, none⟩ = some (.int .i64 (P : Int)) := by rw [HP.out]; exact W6.out.k.1.cell 2
              have e3 : w6.cell? ⟨r, 1, none⟩ = some (.int .i64 (a6 : Int)) := W6.out.k.2.1.cell 1
              clear hnz2
              go_wp2_with fail
              go_still_tail 17, (by kernel_rfl)
              have HY : Hid (Blk w6.drew w.heap.size 30 mz) := Lib.hid (W6.out.y.below ((Below.refl _ w6).drew))
              go_wp2_with (refine wpList_store_row rfl 30 _ _ rfl w.heap.size #[.string ⟨(x ++ X6).toArray⟩, .slice (some ⟨gg, 0, none⟩) (n + 1) cap1, .int .i64 (a6 : Int), .int .i64 0] rfl rfl _ _ HY.out sizeM rfl (one4 _ _ _ _ _ _) ?_)
              (try simp only [Exit.inBlock, Exit.then])
              refine bodyPost_ret (v := .agg #[.string ⟨(x ++ X6).toArray⟩, .slice (some ⟨gg, 0, none⟩) (n + 1) cap1, .int .i64 (a6 : Int), .int .i64 0]) (results_cell_row rfl _ _ w.heap.size 30 _ _ _ rfl (setRow_heap _ _ _ _ _ _ HY.out) Tryz.underlying30 rfl sizeM) rfl ?_
              refine W6.out.done ((Below.refl _ w6).drew) (p := p6) ?_ (fun _ => HPE.out) _
              rw [HT.out, HE.out, HAL.out, HXL.out]

          · have hE7 : (E6 != 0) = true := by simp [hE6]
            have HAL := Lib.hid (all_stop (c := Q ++ x) (k := x.length) HR0.out (.inl (by rw [← HHD.out, ← HA1.out, ← HBR.out]; exact hE6)))
            rw [← HHD.out, ← HA1.out, ← HBR.out] at HAL
            have HE7 := Lib.hid hE6
            clear hE6
            obtain ⟨bz2, cz2, hvz2, _⟩ := W6.out.k.2.2.1.block
            obtain ⟨nz2, hnz2⟩ : ∃ nz2, nz2 = (Q ++ (x ++ X6)).length := ⟨_, rfl⟩
            rw [← hnz2] at hvz2
            subst hvz2
            have hPz2 : P ≤ nz2 := by rw [HP.out, hnz2, List.length_append]; omega
            obtain ⟨Az, hsl, hcz⟩ := rbuf_drop W6.out.k.2.2.1 (x := P) (by rw [← hnz2]; exact hPz2)
            rw [HP.out, List.drop_left, ← HP.out] at hcz
            have hcz := hcz w6.drew ((Below.refl _ w6).drew)
            have hsl := hsl w6.drew
            have e1 : w6.cell? ⟨G, 1, none⟩ = some (.slice (some ⟨bz2, 0, none⟩) nz2 cz2) := W6.out.k.1.cell 1
            have e2 : w6.cell? ⟨G, 2, none⟩ = some (.int .i64 (P : Int)) := by rw [HP.out]; exact W6.out.k.1.cell 2
            have e3 : w6.cell? ⟨r, 1, none⟩ = some (.int .i64 (a6 : Int)) := W6.out.k.2.1.cell 1
            clear hnz2
            go_wp2_with fail
            go_still_tail 17, (by kernel_rfl)
            have HY : Hid (Blk w6.drew w.heap.size 30 mz) := Lib.hid (W6.out.y.below ((Below.refl _ w6).drew))
            go_wp2_with (refine wpList_store_row rfl 30 _ _ rfl w.heap.size #[.string ⟨(x ++ X6).toArray⟩, .slice (some ⟨gg, 0, none⟩) (n + 1) cap1, .int .i64 (a6 : Int), .int .i64 E6] rfl rfl _ _ HY.out sizeM rfl (one4 _ _ _ _ _ _) ?_)
            (try simp only [Exit.inBlock, Exit.then])
            refine bodyPost_ret (v := .agg #[.string ⟨(x ++ X6).toArray⟩, .slice (some ⟨gg, 0, none⟩) (n + 1) cap1, .int .i64 (a6 : Int), .int .i64 E6]) (results_cell_row rfl _ _ w.heap.size 30 _ _ _ rfl (setRow_heap _ _ _ _ _ _ HY.out) Tryz.underlying30 rfl sizeM) rfl ?_
            refine W6.out.done ((Below.refl _ w6).drew) (p := p6) ?_ (fun e => absurd e HE7.out) _
            rw [HT.out, HE.out, HAL.out, HXL.out]
    · have hne : (er == 0) = false := by simp [h0]
      have hne2 : (er != 0) = true := by simp [h0]
      have HER0 : Hid ((headM N M a).1 ≠ 0) := Lib.hid (by rw [← HER.out]; exact h0)
      have HAL := Lib.hid (all_head (c := Q ++ x) (k := x.length) HER0.out)
      obtain ⟨bz, cz, hvz, _⟩ := W4.out.k.2.2.1.block
      obtain ⟨nz, hnz⟩ : ∃ nz, nz = (Q ++ x).length := ⟨_, rfl⟩
      rw [← hnz] at hvz
      subst hvz
      obtain ⟨P, hP⟩ : ∃ P, P = Q.length := ⟨_, rfl⟩
      have hPz : P ≤ nz := by rw [hP, hnz, List.length_append]; omega
      obtain ⟨Az, hsl, hcz⟩ := rbuf_drop W4.out.k.2.2.1 (x := P) (by rw [← hnz]; exact hPz)
      rw [hP, List.drop_left, ← hP] at hcz
      have hcz := hcz w4.drew ((Below.refl _ w4).drew)
      have hsl := hsl w4.drew
      have e1 : w4.cell? ⟨G, 1, none⟩ = some (.slice (some ⟨bz, 0, none⟩) nz cz) := W4.out.k.1.cell 1
      have e2 : w4.cell? ⟨G, 2, none⟩ = some (.int .i64 (P : Int)) := by rw [hP]; exact W4.out.k.1.cell 2
      have e3 : w4.cell? ⟨r, 1, none⟩ = some (.int .i64 (a1 : Int)) := W4.out.k.2.1.cell 1
      clear hnz hP h0
      go_wp2_with fail
      rw [← hw4, ← hG2]
      clear hw4 hG2
      go_wp2_with fail
      go_still_tail 17, (by kernel_rfl)
      have HY : Hid (Blk w4.drew w.heap.size 30 mz) := Lib.hid (W4.out.y.below ((Below.refl _ w4).drew))
      go_wp2_with (refine wpList_store_row rfl 30 _ _ rfl w.heap.size #[.string ⟨x.toArray⟩, .slice A n cp, .int .i64 (a1 : Int), .int .i64 er] rfl rfl _ _ HY.out sizeM rfl (one4 _ _ _ _ _ _) ?_)
      (try simp only [Exit.inBlock, Exit.then])
      refine bodyPost_ret (v := .agg #[.string ⟨x.toArray⟩, .slice A n cp, .int .i64 (a1 : Int), .int .i64 er]) (results_cell_row rfl _ _ w.heap.size 30 _ _ _ rfl (setRow_heap _ _ _ _ _ _ HY.out) Tryz.underlying30 rfl sizeM) rfl ?_
      refine W4.out.done ((Below.refl _ w4).drew) (p := a) ?_ (fun e => absurd (HER.out.symm.trans e) HER0.out) _
      rw [HT.out, HE.out, HAL.out, HER.out]
      simp
end Go.Proofs.YtkcnjhkbcjnbkaaGreatDoor.Ire
namespace Go.Proofs.YtkcnjhkbcjnbkaaGreatDoor.Irf
open Go.RowKit Go.Proofs.YtkcnjhkbcjnbkaaGreatDoor.Vm Go.Proofs.YtkcnjhkbcjnbkaaGreatDoor.Vo Go.Proofs.YtkcnjhkbcjnbkaaGreatDoor.Bm Go.Proofs.YtkcnjhkbcjnbkaaGreatDoor.Bw Go.Proofs.YtkcnjhkbcjnbkaaGreatDoor.Bp Go.Proofs.YtkcnjhkbcjnbkaaGreatDoor.Bs Go.Proofs.YtkcnjhkbcjnbkaaGreatDoor.Bq Go.Proofs.YtkcnjhkbcjnbkaaGreatDoor.Be Go.Proofs.YtkcnjhkbcjnbkaaGreatDoor.Na Go.Proofs.YtkcnjhkbcjnbkaaGreatDoor.Ne Go.Proofs.YtkcnjhkbcjnbkaaGreatDoor.Nm Go.Proofs.YtkcnjhkbcjnbkaaGreatDoor.Wr Go.Proofs.YtkcnjhkbcjnbkaaGreatDoor.Wc Go.Proofs.YtkcnjhkbcjnbkaaGreatDoor.Ww Go.Proofs.YtkcnjhkbcjnbkaaGreatDoor.Pm Go.Proofs.YtkcnjhkbcjnbkaaGreatDoor.Pr Go.Proofs.YtkcnjhkbcjnbkaaGreatDoor.Kc Go.Proofs.YtkcnjhkbcjnbkaaGreatDoor.Kd Go.Proofs.YtkcnjhkbcjnbkaaGreatDoor.Ke Go.Proofs.YtkcnjhkbcjnbkaaGreatDoor.Km Go.Proofs.YtkcnjhkbcjnbkaaGreatDoor.Ks Go.Proofs.YtkcnjhkbcjnbkaaGreatDoor.Sm Go.Proofs.YtkcnjhkbcjnbkaaGreatDoor.Sp Go.Proofs.YtkcnjhkbcjnbkaaGreatDoor.Sr Go.Proofs.YtkcnjhkbcjnbkaaGreatDoor.Me Go.Proofs.YtkcnjhkbcjnbkaaGreatDoor.Mi Go.Proofs.YtkcnjhkbcjnbkaaGreatDoor.Fm Go.Proofs.YtkcnjhkbcjnbkaaGreatDoor.Fa Go.Proofs.YtkcnjhkbcjnbkaaGreatDoor.Ga Go.Proofs.YtkcnjhkbcjnbkaaGreatDoor.Im Go.Proofs.YtkcnjhkbcjnbkaaGreatDoor.Ia Go.Proofs.YtkcnjhkbcjnbkaaGreatDoor.Ib Go.Proofs.YtkcnjhkbcjnbkaaGreatDoor.Ih Go.Proofs.YtkcnjhkbcjnbkaaGreatDoor.Ik Go.Proofs.YtkcnjhkbcjnbkaaGreatDoor.Is Go.Proofs.YtkcnjhkbcjnbkaaGreatDoor.Ira Go.Proofs.YtkcnjhkbcjnbkaaGreatDoor.Irb Go.Proofs.YtkcnjhkbcjnbkaaGreatDoor.Irc Go.Proofs.YtkcnjhkbcjnbkaaGreatDoor.Ird Go.Proofs.YtkcnjhkbcjnbkaaGreatDoor.Ire

theorem ext_last (q : ByteArray) : (q.extract (q.size - 32768) q.size).data.toList = Wm.lastN 32768 q.data.toList := by
  have hl : q.data.toList.length = q.size := Array.length_toList
  have hsz : q.data.size = q.size := rfl
  rw [ByteArray.data_extract, Array.toList_extract, List.extract_eq_take_drop]
  unfold Wm.lastN
  rw [hl, List.take_of_length_le (by rw [List.length_drop, hl]; exact Nat.le_refl _)]
set_option maxHeartbeats 4000000 in
set_option maxRecDepth 100000 in
theorem rAll_long {t q : ByteArray} {a0 : Nat} {w : World} (h6 : t.size ≤ 600) (ha : a0 ≤ 8 * t.size) (hq : 32768 < q.size) (hq4 : q.size ≤ 40000) :
    Calls Tryz.prog 8 #[.string t, .int .i64 (a0 : Int), .string q] w (allR w t a0 (Wm.lastN 32768 q.data.toList)) := by
  obtain ⟨dd, hd⟩ : ∃ dd, dd = q.size - 32768 := ⟨_, rfl⟩
  have hqs : q.data.toList.length = q.size := Array.length_toList
  obtain ⟨Q, hQ⟩ : ∃ Q, Q = Wm.lastN 32768 q.data.toList := ⟨_, rfl⟩
  rw [← hQ]
  have HQ2 : Hid (Q = (q.extract dd q.size).data.toList) := Lib.hid (by rw [hQ, hd]; exact (ext_last q).symm)
  have HQS : Hid (Q.length ≤ 32768) := Lib.hid (by rw [hQ, Wm.lastN_length]; omega)
  have hq' : (32768 : Int) < (q.size : Int) := by omega
  have hsz : (q.size : Int) ≤ 40000 := by omega
  have hsub : (q.size : Int) - 32768 = (dd : Int) := by omega
  have hd2 : (dd : Int) ≤ (q.size : Int) := by omega
  have HA0 := Lib.hid ha
  have H6 := Lib.hid h6
  have HN := Lib.hid (rNew_ok t a0 (w.alloc (.cells mz 30)) (by omega) ha)
  obtain ⟨N, hN⟩ : ∃ N, N = num t.data.toList := ⟨_, rfl⟩
  obtain ⟨M, hM⟩ : ∃ M, M = 8 * t.size := ⟨_, rfl⟩
  have HNN := Lib.hid hN
  have HMM := Lib.hid hM
  have HT : Hid (tot t a0 Q = allM N M a0 Q 0) := Lib.hid (by rw [hN, hM]; rfl)
  clear hN hM hq hq4 ha h6 hQ hqs hd
  obtain ⟨q2, hq2⟩ : ∃ q2, q2 = q.extract dd q.size := ⟨_, rfl⟩
  have hsl : ∀ u : World, (Instr.slice 9 (.string q) (some (.int .i64 (dd : Int))) none none).run Tryz.prog u = .ok (.string q2) u := fun u => by rw [hq2]; go_simp
  have HQQ : Hid (Q = q2.data.toList) := Lib.hid (by rw [hq2]; exact HQ2.out)
  have HQL : Hid (Q.length = q2.size) := Lib.hid (by rw [HQQ.out]; exact Array.length_toList)
  clear hq2 HQ2
  go_enter Tryz.func8, Tryz.ntmps8
  go_wp2_with fail
  refine HN.out.mono ?_
  rintro e w2 ⟨r, rfl, hr, hrr, hb2⟩
  rw [size_alloc] at hrr
  have B2 : Hid (Below w.heap.size w w2) := Lib.hid (((Below.refl _ w).alloc (Nat.le_refl _) (.cells mz 30)).trans (hb2.mono (by rw [size_alloc]; omega)))
  have Y2 : Hid (Blk w2 w.heap.size 30 mz) := Lib.hid ((Blk.fresh w _ _).below hb2)
  have R2 := Lib.hid hr
  clear hr hb2 HN
  have hcv := run_bytes_of_string (P := Tryz.prog) w2 9 53 5 q2 Tryz.underlying9 Tryz.underlying53 Tryz.underlying5
  have hnew := rbuf_new w2 q2
  rw [← HQQ.out] at hnew
  generalize grownCap w2 q2.size 0 5 = cap at hcv hnew
  obtain ⟨w3, hw3⟩ : ∃ w3, w3 = w2.drew.alloc (.cells (bytesRow q2 cap) 5 ((bytesRow q2 cap).size, (bytesRow q2 cap).size + 1)) := ⟨_, rfl⟩
  rw [← hw3] at hcv hnew
  have B3 : Hid (Below w2.heap.size w2 w3) := Lib.hid (by rw [hw3]; exact ((Below.refl _ w2).drew).alloc (Nat.le_refl _) _)
  have Z3 : w3.heap.size = w2.heap.size + 1 := by rw [hw3]; exact size_alloc _ _
  obtain ⟨w4, hw4⟩ : ∃ w4, w4 = w3.alloc (.cells #[.pointer (some ⟨r, 0, none⟩), .slice (some ⟨w2.heap.size, 0, none⟩) q2.size cap, .int .i64 (q2.size : Int)] 64) := ⟨_, rfl⟩
  obtain ⟨G, hG⟩ : ∃ G, G = w3.heap.size := ⟨_, rfl⟩
  have B4 : Below w3.heap.size w3 w4 := by rw [hw4]; exact (Below.refl _ w3).alloc (Nat.le_refl _) _
  have hql := HQL.out
  have W4 : Hid (aw w w.heap.size G r t Q a0 (.slice (some ⟨w2.heap.size, 0, none⟩) q2.size cap) [] (.slice none 0 0) [] w4) := Lib.hid
    ⟨⟨by rw [hql, hw4, hG]; exact Blk.fresh _ _ _, (R2.out.below B3.out).below B4, by rw [List.append_nil]; exact hnew.below B4, by simp⟩,
      (B2.out.trans (B3.out.mono B2.out.size)).trans (B4.mono (by have := B2.out.size; omega)), ⟨by have := B2.out.size; omega, by omega, fun i hi => by obtain rfl : w2.heap.size = i := Option.some.inj hi; exact B2.out.size⟩,
      (Y2.out.below B3.out).below B4, rst_nil _ _⟩
  clear B2 Y2 R2 hnew hw3 B3 B4 hql hrr Z3
  go_wp2_with fail
  rw [← hw4, ← hG]
  clear hw4 hG hcv hq' hsz hsub hd2 hsl
  go_loopg [10] (M - a0) (fun gk s10 wr => ∃ (a : Nat) (v : Value) (x : List UInt8) (L : List (Nat × Nat)) (A : Option Addr) (n cp : Nat), s10 = .slice A n cp ∧ Hid (n = L.length) ∧ Hid (gk = M - a) ∧ Hid (a ≤ M) ∧ Hid (L.length ≤ a ∧ x.length + 258 * (M - a) ≤ 258 * M) ∧ Hid (aw w w.heap.size G r t Q a v x (.slice A n cp) L wr) ∧ Hid (allM N M a0 Q 0 = ((allM N M a (Q ++ x) x.length).1, L ++ (allM N M a (Q ++ x) x.length).2.1, (allM N M a (Q ++ x) x.length).2.2.1, x ++ (allM N M a (Q ++ x) x.length).2.2.2)))
  case atStart => exact ⟨a0, _, [], [], none, 0, 0, rfl, Lib.hid rfl, Lib.hid rfl, Lib.hid (by rw [HMM.out]; exact HA0.out), Lib.hid ⟨Nat.zero_le _, by show 0 + 258 * (M - a0) ≤ 258 * M; omega⟩, W4, Lib.hid (by rw [List.append_nil, List.nil_append, List.nil_append]; rfl)⟩
  case round =>
    obtain ⟨a, v, x, L, A, n, cp, rfl, HLN, HG, HA, HLA, W, HE⟩ := hrel
    clear W4
    have c1 : wr.cell? ⟨r, 1, none⟩ = some (.int .i64 (a : Int)) := W.out.k.2.1.cell 1
    have HRD := Lib.hid (rRead_all W.out.k.2.1 (by have := H6.out; omega) (by rw [← HMM.out]; exact HA.out))
    unfold rReads at HRD
    rw [← HNN.out, ← HMM.out] at HRD
    obtain ⟨er, her⟩ : ∃ er, er = (headM N M a).1 := ⟨_, rfl⟩
    obtain ⟨hd, hhd⟩ : ∃ hd, hd = (headM N M a).2.1 := ⟨_, rfl⟩
    obtain ⟨a1, ha1⟩ : ∃ a1, a1 = (headM N M a).2.2 := ⟨_, rfl⟩
    rw [← her, ← hhd, ← ha1] at HRD
    have HER := Lib.hid her
    have HHD := Lib.hid hhd
    have HA1 := Lib.hid ha1
    clear her hhd ha1
    go_wp2_with fail
    refine HRD.out.mono ?_
    rintro e w3 ⟨b, kk, z, A1, n1, cp1, A2, n2, cp2, rfl, hH, r3, o3⟩
    have W3 := W.out.moved o3 r3
    obtain ⟨w4, hw4⟩ : ∃ w4, w4 = w3.alloc (.cells #[.bool b, .int .i64 kk, .int .i64 z, .slice A1 n1 cp1, .slice A2 n2 cp2] 68) := ⟨_, rfl⟩
    obtain ⟨G2, hG2⟩ : ∃ G2, G2 = w3.heap.size := ⟨_, rfl⟩
    have KH : Hid (Blk w4 G2 68 #[.bool b, .int .i64 kk, .int .i64 z, .slice A1 n1 cp1, .slice A2 n2 cp2]) := Lib.hid (by rw [hw4, hG2]; exact Blk.fresh w3 _ _)
    have B4 : Below w3.heap.size w3 w4 := by rw [hw4]; exact (Below.refl _ w3).alloc (Nat.le_refl _) _
    have W4 := Lib.hid (W3.below B4)
    have HH4 := Lib.hid (hH.below B4)
    clear hH r3 o3 W3 B4 HRD c1
    by_cases h0 : er = 0
    · have hne : (er == 0) = true := by simp [h0]
      have HR0 : Hid ((headM N M a).1 = 0) := Lib.hid (by rw [← HER.out]; exact h0)
      subst h0
      obtain ⟨v1, v2, hve, lv1, lv2⟩ := HH4.out
      have hb : b = hd.fin ∧ kk = (hd.kind : Int) ∧ z = (hd.size : Int) ∧ Value.slice A1 n1 cp1 = v1 ∧ Value.slice A2 n2 cp2 = v2 := by
        unfold hv at hve
        injection hve with hve
        simp only [Array.mk.injEq, List.cons.injEq, Value.bool.injEq, Value.int.injEq, true_and, and_true] at hve
        exact hve
      obtain ⟨hb1, hb2, hb3, hb4, hb5⟩ := hb
      have LV1 : Hid (lst w4 (.slice A1 n1 cp1) hd.lits) := Lib.hid (by rw [hb4]; exact lv1)
      have LV2 : Hid (lst w4 (.slice A2 n2 cp2) hd.dists) := Lib.hid (by rw [hb5]; exact lv2)
      have HB1 := Lib.hid hb1
      have HB2 := Lib.hid hb2
      have HB3 := Lib.hid hb3
      clear hve hb1 hb2 hb3 hb4 hb5 lv1 lv2 HH4
      obtain ⟨bz, cz, hvz, _⟩ := W4.out.k.2.2.1.block
      obtain ⟨nz, hnz⟩ : ∃ nz, nz = (Q ++ x).length := ⟨_, rfl⟩
      rw [← hnz] at hvz
      subst hvz
      obtain ⟨P, hP⟩ : ∃ P, P = Q.length := ⟨_, rfl⟩
      obtain ⟨xl, hxl⟩ : ∃ xl, xl = x.length := ⟨_, rfl⟩
      have hsub : (nz : Int) - (P : Int) = (xl : Int) := by rw [hP, hnz, hxl, List.length_append]; omega
      have HP := Lib.hid hP
      have HXL := Lib.hid hxl.symm
      have HQX : Hid ((Q ++ x).length + 258 * (M - a1) ≤ 1900000 ∧ xl ≤ 1900000) := Lib.hid (by
        have h1 := HLA.out.2; have h2 := HA.out; have h3 := HMM.out; have h4 := H6.out; have h5 := HQS.out; have h6 := (head_facts HR0.out).2.1
        rw [← HA1.out] at h6
        rw [List.length_append]; omega)
      have e1 : w4.cell? ⟨G, 1, none⟩ = some (.slice (some ⟨bz, 0, none⟩) nz cz) := W4.out.k.1.cell 1
      have e2 : w4.cell? ⟨G, 2, none⟩ = some (.int .i64 (P : Int)) := by rw [hP]; exact W4.out.k.1.cell 2
      have hO : w4.ownsRow w.heap.size 71 2 (.slice A n cp) n (Ls L) := by
        have k := W4.out.s
        unfold rst at k
        rw [← HLN.out] at k
        exact k
      have hxb : (xl : Int) ≤ 2000000 := by have := HQX.out.2; omega
      have hxw : IntKind.i64.wrap (xl : Int) = (xl : Int) := by rw [IntKind.wrap_i64]; omega
      have hbs := W4.out.b.size
      have hnb : n ≤ 5000 := by rw [HLN.out]; have h1 := HLA.out.1; have h2 := HA.out; have h3 := HMM.out; have h4 := H6.out; omega
      obtain ⟨i0, hi, hz0, hz1, hz2⟩ := info_parts infoRs
      clear hnz hP hxl
      go_wp2_with fail
      rw [← hw4, ← hG2]
      clear hw4 hG2
      go_wp2_with fail
      go_region_law (refine step_append_lies _ (by rfl) _ _ _ (by rfl) w.heap.size 71 i0 _ 2 16 Tryz.underlying28 hi hz0 hz1 hz2 rfl (by omega) (.slice A n cp) n (Ls L) (by rfl) ((hO.alloc _).drew) ⟨w4.heap.size, 0, none⟩ 1 1 [.int .i64 (a : Int), .int .i64 (xl : Int)] (by rfl) (by rfl) (World.news_of_block (cs := #[.int .i64 (a : Int), .int .i64 (xl : Int)]) (t := 71) (fr := (0, 0)) (heap_alloc_new _ _)) (by simp [Value.oneCell']) (by omega) (by unfold maxLen; omega) (by omega) (by simp; omega) (w4.heap.size + 1) (by simp) ?_; intro gg cap1 w5 hown1 hgrow hat hlt)
      all_goals
        have O5 : Only (fun i => (Value.slice A n cp).ownBlock = some i) w4 w5 := (((Only.refl _ w4).alloc _).drew).grown hgrow (fun i hi _ => hi)
        have KB : Below w.heap.size w w5 := (W4.out.b.alloc hbs _).drew.grown hgrow (by simp; omega) (fun q hq => (hO.lt q hq).1)
        have KR : rst w.heap.size w5 (.slice (some ⟨gg, 0, none⟩) (n + 1) cap1) (L ++ [(a, xl)]) := by
          have hlen : (L ++ [(a, xl)]).length = n + 1 := by rw [List.length_append, HLN.out]; rfl
          unfold rst
          rw [hlen, Ls_append]
          exact hown1
        have W5 := Lib.hid (W4.out.start O5 KB KR)
        have KH5 := Lib.hid (rst_blk_off W4.out.s KH.out O5 (by decide))
        have LV15 := Lib.hid (rst_lst_off W4.out.s LV1.out O5)
        have LV25 := Lib.hid (rst_lst_off W4.out.s LV2.out O5)
        have k1 : w5.cell? ⟨G2, 1, none⟩ = some (.int .i64 kk) := KH5.out.cell 1
        obtain ⟨R, hR⟩ : ∃ R, R = bodM hd N M a1 (Q ++ x) := ⟨_, rfl⟩
        have hbf := (bod_facts (N := N) (head_15 HR0.out).1 (head_15 HR0.out).2 (head_facts HR0.out).2.2 (Q ++ x)).2.2.2
        rw [← HHD.out, ← HA1.out, ← hR] at hbf
        have hnx := head_nx HR0.out
        rw [← HHD.out, ← HA1.out] at hnx
        have ha1M : a1 ≤ M := by rw [HA1.out]; exact (head_facts HR0.out).2.2
        have ha1a : a ≤ a1 := by rw [HA1.out]; have := (head_facts HR0.out).2.1; omega
        by_cases hk : hd.kind = 0
        · have hkk : kk = 0 := by rw [HB2.out, hk]; rfl
          have hnx2 : a1 % 8 = 0 ∧ hd.size ≤ 65535 := by unfold nxOf at hnx; rw [if_pos hk] at hnx; exact hnx
          have hR2 : R = stoW N M a1 hd.size := by rw [hR]; unfold bodM stoW; rw [if_pos hk]
          have hcall := rstored_any HB3.out hnx2.2 W5.out.k (by have := H6.out; omega) (by rw [← HMM.out]; exact ha1M) (by have := HQX.out.1; have := hnx2.2; omega)
          rw [← HNN.out, ← HMM.out, ← hR2] at hcall
          obtain ⟨E6, p6, X6⟩ := R
          have HCALL := Lib.hid hcall
          have HBR := Lib.hid hR
          have HBF : Hid (E6 = 0 → X6.length + 258 * (M - p6) ≤ 258 * (M - a1)) := Lib.hid hbf
          have HAA : Hid (a ≤ a1) := Lib.hid ha1a
          clear hbf
          have k2 : w5.cell? ⟨G2, 2, none⟩ = some (.int .i64 z) := KH5.out.cell 2
          clear hown1 hgrow hat hlt hO O5 KB KR hcall hR hR2 hnx hnx2 ha1M ha1a hk e1 e2 hsub hxw hxb
          subst hkk
          go_wp2_with fail
          refine HCALL.out.mono ?_
          rintro e w6 ⟨rfl, v6, a6, k6, h6, e6, o6, l6⟩
          rw [List.append_assoc] at k6
          have W6 := Lib.hid (W5.out.on k6 o6 l6)
          have KH6 := blk_ow KH5.out W5.out.k o6 (by decide) (by decide) (by decide)
          have HA6 : Hid (a6 ≤ M) := Lib.hid (by rw [HMM.out]; exact h6)
          have HE6 := Lib.hid e6
          have b0 : w6.cell? ⟨G2, 0, none⟩ = some (.bool b) := KH6.cell 0
          clear k6 o6 l6 KH6 h6 e6
          by_cases hE6 : E6 = 0
          · cases hb : b
            · rw [hb] at b0
              have HAL := Lib.hid (all_next (c := Q ++ x) (k := x.length) HR0.out (by rw [← HHD.out, ← HA1.out, ← HBR.out]; exact hE6) (by rw [← HHD.out, ← HB1.out]; exact hb) (b := (E6, p6, X6)) (by rw [HBR.out, HHD.out, HA1.out]))
              have HPE : Hid (a6 = p6) := Lib.hid (HE6.out hE6)
              have HPL : Hid (a < a6) := Lib.hid (by
                have h9 := (head_bod HR0.out (Q ++ x)).1
                rw [← HHD.out, ← HA1.out, ← HBR.out] at h9
                rw [HPE.out]; exact h9)
              subst hE6
              go_wp2
              go_roundg (M - a6)
              case measure => have := HG.out; have := HPL.out; have := HA6.out; omega
              case rel =>
                refine ⟨a6, v6, x ++ X6, L ++ [(a, xl)], some ⟨gg, 0, none⟩, n + 1, cap1, rfl, Lib.hid (by rw [List.length_append, HLN.out]; rfl), Lib.hid rfl, HA6, Lib.hid ⟨by rw [List.length_append]; have h8 := HLA.out.1; have h7 := HPL.out; show L.length + 1 ≤ a6; omega, by rw [List.length_append]; have h8 := HLA.out.2; have h9 := HBF.out (by trivial); rw [← HPE.out] at h9; have := HAA.out; have := HA.out; omega⟩, W6, Lib.hid ?_⟩
                rw [HE.out, HAL.out, HXL.out, HPE.out]
                simp only [List.append_assoc, List.length_append, List.cons_append, List.nil_append, HXL.out]
            · rw [hb] at b0
              have HAL := Lib.hid (all_stop (c := Q ++ x) (k := x.length) HR0.out (.inr (by rw [← HHD.out, ← HB1.out]; exact hb)))
              rw [← HHD.out, ← HA1.out, ← HBR.out] at HAL
              have HPE : Hid (a6 = p6) := Lib.hid (HE6.out hE6)
              subst hE6
              obtain ⟨bz2, cz2, hvz2, _⟩ := W6.out.k.2.2.1.block
              obtain ⟨nz2, hnz2⟩ : ∃ nz2, nz2 = (Q ++ (x ++ X6)).length := ⟨_, rfl⟩
              rw [← hnz2] at hvz2
              subst hvz2
              have hPz2 : P ≤ nz2 := by rw [HP.out, hnz2, List.length_append]; omega
              obtain ⟨Az, hsl, hcz⟩ := rbuf_drop W6.out.k.2.2.1 (x := P) (by rw [← hnz2]; exact hPz2)
              rw [HP.out, List.drop_left, ← HP.out] at hcz
              have hcz := hcz w6.drew ((Below.refl _ w6).drew)
              have hsl := hsl w6.drew
              have e1 : w6.cell? ⟨G, 1, none⟩ = some (.slice (some ⟨bz2, 0, none⟩) nz2 cz2) := W6.out.k.1.cell 1
              have e2 : w6.cell? ⟨G, 2, none⟩ = some (.int .i64 (P : Int)) := by rw [HP.out]; exact W6.out.k.1.cell 2
              have e3 : w6.cell? ⟨r, 1, none⟩ = some (.int .i64 (a6 : Int)) := W6.out.k.2.1.cell 1
              clear hnz2
              go_wp2_with fail
              go_still_tail 17, (by kernel_rfl)
              have HY : Hid (Blk w6.drew w.heap.size 30 mz) := Lib.hid (W6.out.y.below ((Below.refl _ w6).drew))
              go_wp2_with (refine wpList_store_row rfl 30 _ _ rfl w.heap.size #[.string ⟨(x ++ X6).toArray⟩, .slice (some ⟨gg, 0, none⟩) (n + 1) cap1, .int .i64 (a6 : Int), .int .i64 0] rfl rfl _ _ HY.out sizeM rfl (one4 _ _ _ _ _ _) ?_)
              (try simp only [Exit.inBlock, Exit.then])
              refine bodyPost_ret (v := .agg #[.string ⟨(x ++ X6).toArray⟩, .slice (some ⟨gg, 0, none⟩) (n + 1) cap1, .int .i64 (a6 : Int), .int .i64 0]) (results_cell_row rfl _ _ w.heap.size 30 _ _ _ rfl (setRow_heap _ _ _ _ _ _ HY.out) Tryz.underlying30 rfl sizeM) rfl ?_
              refine W6.out.done ((Below.refl _ w6).drew) (p := p6) ?_ (fun _ => HPE.out) _
              rw [HT.out, HE.out, HAL.out, HXL.out]

          · have hE7 : (E6 != 0) = true := by simp [hE6]
            have HAL := Lib.hid (all_stop (c := Q ++ x) (k := x.length) HR0.out (.inl (by rw [← HHD.out, ← HA1.out, ← HBR.out]; exact hE6)))
            rw [← HHD.out, ← HA1.out, ← HBR.out] at HAL
            have HE7 := Lib.hid hE6
            clear hE6
            obtain ⟨bz2, cz2, hvz2, _⟩ := W6.out.k.2.2.1.block
            obtain ⟨nz2, hnz2⟩ : ∃ nz2, nz2 = (Q ++ (x ++ X6)).length := ⟨_, rfl⟩
            rw [← hnz2] at hvz2
            subst hvz2
            have hPz2 : P ≤ nz2 := by rw [HP.out, hnz2, List.length_append]; omega
            obtain ⟨Az, hsl, hcz⟩ := rbuf_drop W6.out.k.2.2.1 (x := P) (by rw [← hnz2]; exact hPz2)
            rw [HP.out, List.drop_left, ← HP.out] at hcz
            have hcz := hcz w6.drew ((Below.refl _ w6).drew)
            have hsl := hsl w6.drew
            have e1 : w6.cell? ⟨G, 1, none⟩ = some (.slice (some ⟨bz2, 0, none⟩) nz2 cz2) := W6.out.k.1.cell 1
            have e2 : w6.cell? ⟨G, 2, none⟩ = some (.int .i64 (P : Int)) := by rw [HP.out]; exact W6.out.k.1.cell 2
            have e3 : w6.cell? ⟨r, 1, none⟩ = some (.int .i64 (a6 : Int)) := W6.out.k.2.1.cell 1
            clear hnz2
            go_wp2_with fail
            go_still_tail 17, (by kernel_rfl)
            have HY : Hid (Blk w6.drew w.heap.size 30 mz) := Lib.hid (W6.out.y.below ((Below.refl _ w6).drew))
            go_wp2_with (refine wpList_store_row rfl 30 _ _ rfl w.heap.size #[.string ⟨(x ++ X6).toArray⟩, .slice (some ⟨gg, 0, none⟩) (n + 1) cap1, .int .i64 (a6 : Int), .int .i64 E6] rfl rfl _ _ HY.out sizeM rfl (one4 _ _ _ _ _ _) ?_)
            (try simp only [Exit.inBlock, Exit.then])
            refine bodyPost_ret (v := .agg #[.string ⟨(x ++ X6).toArray⟩, .slice (some ⟨gg, 0, none⟩) (n + 1) cap1, .int .i64 (a6 : Int), .int .i64 E6]) (results_cell_row rfl _ _ w.heap.size 30 _ _ _ rfl (setRow_heap _ _ _ _ _ _ HY.out) Tryz.underlying30 rfl sizeM) rfl ?_
            refine W6.out.done ((Below.refl _ w6).drew) (p := p6) ?_ (fun e => absurd e HE7.out) _
            rw [HT.out, HE.out, HAL.out, HXL.out]

        · have hkk : (kk == 0) = false := by rw [HB2.out]; simp; omega
          have hnx2 : code hd.lits ∧ code hd.dists := by unfold nxOf at hnx; rw [if_neg hk] at hnx; exact hnx
          have hR2 : R = codM hd.lits hd.dists N M a1 (Q ++ x) := by rw [hR]; unfold bodM; rw [if_neg hk]
          have hcall := rcoded_any (fb := b) (kd := kk) (z := z) W5.out.k LV15.out LV25.out hnx2.1 hnx2.2 (by have := H6.out; omega) (by rw [← HMM.out]; exact ha1M) (by rw [← HMM.out]; have := HQX.out.1; omega)
          rw [← HNN.out, ← HMM.out, ← hR2] at hcall
          obtain ⟨E6, p6, X6⟩ := R
          have HCALL := Lib.hid hcall
          have HBR := Lib.hid hR
          have HBF : Hid (E6 = 0 → X6.length + 258 * (M - p6) ≤ 258 * (M - a1)) := Lib.hid hbf
          have HAA : Hid (a ≤ a1) := Lib.hid ha1a
          clear hbf
          clear hown1 hgrow hat hlt hO O5 KB KR hcall hR hR2 hnx hnx2 ha1M ha1a hk e1 e2 hsub hxw hxb
          go_wp2_with (refine wpList_load_row rfl 68 _ rfl G2 rfl _ _ _ _ KH5.out Tryz.underlying68 rfl Kn.sizeR ?_)
          refine HCALL.out.mono ?_
          rintro e w6 ⟨rfl, v6, a6, k6, h6, e6, o6, l6⟩
          rw [List.append_assoc] at k6
          have W6 := Lib.hid (W5.out.on k6 o6 l6)
          have KH6 := blk_ow KH5.out W5.out.k o6 (by decide) (by decide) (by decide)
          have HA6 : Hid (a6 ≤ M) := Lib.hid (by rw [HMM.out]; exact h6)
          have HE6 := Lib.hid e6
          have b0 : w6.cell? ⟨G2, 0, none⟩ = some (.bool b) := KH6.cell 0
          clear k6 o6 l6 KH6 h6 e6
          by_cases hE6 : E6 = 0
          · cases hb : b
            · rw [hb] at b0
              have HAL := Lib.hid (all_next (c := Q ++ x) (k := x.length) HR0.out (by rw [← HHD.out, ← HA1.out, ← HBR.out]; exact hE6) (by rw [← HHD.out, ← HB1.out]; exact hb) (b := (E6, p6, X6)) (by rw [HBR.out, HHD.out, HA1.out]))
              have HPE : Hid (a6 = p6) := Lib.hid (HE6.out hE6)
              have HPL : Hid (a < a6) := Lib.hid (by
                have h9 := (head_bod HR0.out (Q ++ x)).1
                rw [← HHD.out, ← HA1.out, ← HBR.out] at h9
                rw [HPE.out]; exact h9)
              subst hE6
              go_wp2
              go_roundg (M - a6)
              case measure => have := HG.out; have := HPL.out; have := HA6.out; omega
              case rel =>
                refine ⟨a6, v6, x ++ X6, L ++ [(a, xl)], some ⟨gg, 0, none⟩, n + 1, cap1, rfl, Lib.hid (by rw [List.length_append, HLN.out]; rfl), Lib.hid rfl, HA6, Lib.hid ⟨by rw [List.length_append]; have h8 := HLA.out.1; have h7 := HPL.out; show L.length + 1 ≤ a6; omega, by rw [List.length_append]; have h8 := HLA.out.2; have h9 := HBF.out (by trivial); rw [← HPE.out] at h9; have := HAA.out; have := HA.out; omega⟩, W6, Lib.hid ?_⟩
                rw [HE.out, HAL.out, HXL.out, HPE.out]
                simp only [List.append_assoc, List.length_append, List.cons_append, List.nil_append, HXL.out]
            · rw [hb] at b0
              have HAL := Lib.hid (all_stop (c := Q ++ x) (k := x.length) HR0.out (.inr (by rw [← HHD.out, ← HB1.out]; exact hb)))
              rw [← HHD.out, ← HA1.out, ← HBR.out] at HAL
              have HPE : Hid (a6 = p6) := Lib.hid (HE6.out hE6)
              subst hE6
              obtain ⟨bz2, cz2, hvz2, _⟩ := W6.out.k.2.2.1.block
              obtain ⟨nz2, hnz2⟩ : ∃ nz2, nz2 = (Q ++ (x ++ X6)).length := ⟨_, rfl⟩
              rw [← hnz2] at hvz2
              subst hvz2
              have hPz2 : P ≤ nz2 := by rw [HP.out, hnz2, List.length_append]; omega
              obtain ⟨Az, hsl, hcz⟩ := rbuf_drop W6.out.k.2.2.1 (x := P) (by rw [← hnz2]; exact hPz2)
              rw [HP.out, List.drop_left, ← HP.out] at hcz
              have hcz := hcz w6.drew ((Below.refl _ w6).drew)
              have hsl := hsl w6.drew
              have e1 : w6.cell? ⟨G, 1, none⟩ = some (.slice (some ⟨bz2, 0, none⟩) nz2 cz2) := W6.out.k.1.cell 1
              have e2 : w6.cell? ⟨G, 2, none⟩ = some (.int .i64 (P : Int)) := by rw [HP.out]; exact W6.out.k.1.cell 2
              have e3 : w6.cell? ⟨r, 1, none⟩ = some (.int .i64 (a6 : Int)) := W6.out.k.2.1.cell 1
              clear hnz2
              go_wp2_with fail
              go_still_tail 17, (by kernel_rfl)
              have HY : Hid (Blk w6.drew w.heap.size 30 mz) := Lib.hid (W6.out.y.below ((Below.refl _ w6).drew))
              go_wp2_with (refine wpList_store_row rfl 30 _ _ rfl w.heap.size #[.string ⟨(x ++ X6).toArray⟩, .slice (some ⟨gg, 0, none⟩) (n + 1) cap1, .int .i64 (a6 : Int), .int .i64 0] rfl rfl _ _ HY.out sizeM rfl (one4 _ _ _ _ _ _) ?_)
              (try simp only [Exit.inBlock, Exit.then])
              refine bodyPost_ret (v := .agg #[.string ⟨(x ++ X6).toArray⟩, .slice (some ⟨gg, 0, none⟩) (n + 1) cap1, .int .i64 (a6 : Int), .int .i64 0]) (results_cell_row rfl _ _ w.heap.size 30 _ _ _ rfl (setRow_heap _ _ _ _ _ _ HY.out) Tryz.underlying30 rfl sizeM) rfl ?_
              refine W6.out.done ((Below.refl _ w6).drew) (p := p6) ?_ (fun _ => HPE.out) _
              rw [HT.out, HE.out, HAL.out, HXL.out]

          · have hE7 : (E6 != 0) = true := by simp [hE6]
            have HAL := Lib.hid (all_stop (c := Q ++ x) (k := x.length) HR0.out (.inl (by rw [← HHD.out, ← HA1.out, ← HBR.out]; exact hE6)))
            rw [← HHD.out, ← HA1.out, ← HBR.out] at HAL
            have HE7 := Lib.hid hE6
            clear hE6
            obtain ⟨bz2, cz2, hvz2, _⟩ := W6.out.k.2.2.1.block
            obtain ⟨nz2, hnz2⟩ : ∃ nz2, nz2 = (Q ++ (x ++ X6)).length := ⟨_, rfl⟩
            rw [← hnz2] at hvz2
            subst hvz2
            have hPz2 : P ≤ nz2 := by rw [HP.out, hnz2, List.length_append]; omega
            obtain ⟨Az, hsl, hcz⟩ := rbuf_drop W6.out.k.2.2.1 (x := P) (by rw [← hnz2]; exact hPz2)
            rw [HP.out, List.drop_left, ← HP.out] at hcz
            have hcz := hcz w6.drew ((Below.refl _ w6).drew)
            have hsl := hsl w6.drew
            have e1 : w6.cell? ⟨G, 1, none⟩ = some (.slice (some ⟨bz2, 0, none⟩) nz2 cz2) := W6.out.k.1.cell 1
            have e2 : w6.cell? ⟨G, 2, none⟩ = some (.int .i64 (P : Int)) := by rw [HP.out]; exact W6.out.k.1.cell 2
            have e3 : w6.cell? ⟨r, 1, none⟩ = some (.int .i64 (a6 : Int)) := W6.out.k.2.1.cell 1
            clear hnz2
            go_wp2_with fail
            go_still_tail 17, (by kernel_rfl)
            have HY : Hid (Blk w6.drew w.heap.size 30 mz) := Lib.hid (W6.out.y.below ((Below.refl _ w6).drew))
            go_wp2_with (refine wpList_store_row rfl 30 _ _ rfl w.heap.size #[.string ⟨(x ++ X6).toArray⟩, .slice (some ⟨gg, 0, none⟩) (n + 1) cap1, .int .i64 (a6 : Int), .int .i64 E6] rfl rfl _ _ HY.out sizeM rfl (one4 _ _ _ _ _ _) ?_)
            (try simp only [Exit.inBlock, Exit.then])
            refine bodyPost_ret (v := .agg #[.string ⟨(x ++ X6).toArray⟩, .slice (some ⟨gg, 0, none⟩) (n + 1) cap1, .int .i64 (a6 : Int), .int .i64 E6]) (results_cell_row rfl _ _ w.heap.size 30 _ _ _ rfl (setRow_heap _ _ _ _ _ _ HY.out) Tryz.underlying30 rfl sizeM) rfl ?_
            refine W6.out.done ((Below.refl _ w6).drew) (p := p6) ?_ (fun e => absurd e HE7.out) _
            rw [HT.out, HE.out, HAL.out, HXL.out]
    · have hne : (er == 0) = false := by simp [h0]
      have hne2 : (er != 0) = true := by simp [h0]
      have HER0 : Hid ((headM N M a).1 ≠ 0) := Lib.hid (by rw [← HER.out]; exact h0)
      have HAL := Lib.hid (all_head (c := Q ++ x) (k := x.length) HER0.out)
      obtain ⟨bz, cz, hvz, _⟩ := W4.out.k.2.2.1.block
      obtain ⟨nz, hnz⟩ : ∃ nz, nz = (Q ++ x).length := ⟨_, rfl⟩
      rw [← hnz] at hvz
      subst hvz
      obtain ⟨P, hP⟩ : ∃ P, P = Q.length := ⟨_, rfl⟩
      have hPz : P ≤ nz := by rw [hP, hnz, List.length_append]; omega
      obtain ⟨Az, hsl, hcz⟩ := rbuf_drop W4.out.k.2.2.1 (x := P) (by rw [← hnz]; exact hPz)
      rw [hP, List.drop_left, ← hP] at hcz
      have hcz := hcz w4.drew ((Below.refl _ w4).drew)
      have hsl := hsl w4.drew
      have e1 : w4.cell? ⟨G, 1, none⟩ = some (.slice (some ⟨bz, 0, none⟩) nz cz) := W4.out.k.1.cell 1
      have e2 : w4.cell? ⟨G, 2, none⟩ = some (.int .i64 (P : Int)) := by rw [hP]; exact W4.out.k.1.cell 2
      have e3 : w4.cell? ⟨r, 1, none⟩ = some (.int .i64 (a1 : Int)) := W4.out.k.2.1.cell 1
      clear hnz hP h0
      go_wp2_with fail
      rw [← hw4, ← hG2]
      clear hw4 hG2
      go_wp2_with fail
      go_still_tail 17, (by kernel_rfl)
      have HY : Hid (Blk w4.drew w.heap.size 30 mz) := Lib.hid (W4.out.y.below ((Below.refl _ w4).drew))
      go_wp2_with (refine wpList_store_row rfl 30 _ _ rfl w.heap.size #[.string ⟨x.toArray⟩, .slice A n cp, .int .i64 (a1 : Int), .int .i64 er] rfl rfl _ _ HY.out sizeM rfl (one4 _ _ _ _ _ _) ?_)
      (try simp only [Exit.inBlock, Exit.then])
      refine bodyPost_ret (v := .agg #[.string ⟨x.toArray⟩, .slice A n cp, .int .i64 (a1 : Int), .int .i64 er]) (results_cell_row rfl _ _ w.heap.size 30 _ _ _ rfl (setRow_heap _ _ _ _ _ _ HY.out) Tryz.underlying30 rfl sizeM) rfl ?_
      refine W4.out.done ((Below.refl _ w4).drew) (p := a) ?_ (fun e => absurd (HER.out.symm.trans e) HER0.out) _
      rw [HT.out, HE.out, HAL.out, HER.out]
      simp
theorem rAll_any {t q : ByteArray} {a0 : Nat} {w : World} (h6 : t.size ≤ 600) (ha : a0 ≤ 8 * t.size) (hq4 : q.size ≤ 40000) :
    Calls Tryz.prog 8 #[.string t, .int .i64 (a0 : Int), .string q] w (allR w t a0 (Wm.lastN 32768 q.data.toList)) := by
  by_cases hq : q.size ≤ 32768
  · rw [Wm.lastN_all (by rw [Array.length_toList]; exact hq)]
    exact rAll_short h6 ha hq
  · exact rAll_long h6 ha (by omega) hq4
end Go.Proofs.YtkcnjhkbcjnbkaaGreatDoor.Irf
