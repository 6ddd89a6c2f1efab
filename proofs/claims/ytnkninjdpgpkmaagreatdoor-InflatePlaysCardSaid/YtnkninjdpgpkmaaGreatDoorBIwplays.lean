/-
  InflatePlays: however many bytes are asked for, step by step, also of copies: what is told, what is wrong, and whether all is done, is as the reference says.
  Conditions: none.
  The walk of the call.
-/
import Derived.Test.YtnkninjdpgpkmaaGreatDoorBch
import Derived.Test.YtnkninjdpgpkmaaGreatDoorBbu
import Derived.Test.YtnkninjdpgpkmaaGreatDoorBcj
import Derived.Test.YtnkninjdpgpkmaaGreatDoorBck
import Derived.Test.YtnkninjdpgpkmaaGreatDoorBci
import Derived.Test.YtnkninjdpgpkmaaGreatDoorBal
import Derived.Deep.DeepCutAuto
import Derived.Deep.LoopGhost
import Derived.Deep.RegionHeld3
namespace Go.Proofs.YtnkninjdpgpkmaaGreatDoor.inflatePlays
open Go.RowKit
open Go.Proofs.YtnkninjdpgpkmaaGreatDoor.Bm Go.Proofs.YtnkninjdpgpkmaaGreatDoor.Bw Go.Proofs.YtnkninjdpgpkmaaGreatDoor.Na Go.Proofs.YtnkninjdpgpkmaaGreatDoor.Lw Go.Proofs.YtnkninjdpgpkmaaGreatDoor.Ky Go.Proofs.YtnkninjdpgpkmaaGreatDoor.Fm Go.Proofs.YtnkninjdpgpkmaaGreatDoor.Fa Go.Proofs.YtnkninjdpgpkmaaGreatDoor.Im Go.Proofs.YtnkninjdpgpkmaaGreatDoor.Ib Go.Proofs.YtnkninjdpgpkmaaGreatDoor.Ic Go.Proofs.YtnkninjdpgpkmaaGreatDoor.Ih Go.Proofs.YtnkninjdpgpkmaaGreatDoor.Ik Go.Proofs.YtnkninjdpgpkmaaGreatDoor.Il Go.Proofs.YtnkninjdpgpkmaaGreatDoor.Io Go.Proofs.YtnkninjdpgpkmaaGreatDoor.Iq Go.Proofs.YtnkninjdpgpkmaaGreatDoor.Is Go.Proofs.YtnkninjdpgpkmaaGreatDoor.Iv Go.Proofs.YtnkninjdpgpkmaaGreatDoor.Ire Go.Proofs.YtnkninjdpgpkmaaGreatDoor.Irf

theorem ba_ext {a b : ByteArray} (h : a.data.toList = b.data.toList) : a = b := by
  cases a with | mk a => cases b with | mk b => exact congrArg ByteArray.mk (Array.toList_inj.1 h)
/-- A machine on its way, in a world where all of its blocks are new since w. -/
structure wayA (a0 : Nat) (w wr : World) (m : Nat) (t : ByteArray) (p : List UInt8) (k : Nat) (o : Ob) (s : St) : Prop where
  u : up a0 wr m t p o k s
  l : ∀ i, own m o i → w.heap.size ≤ i
  b : Below w.heap.size w wr
section
variable {a0 : Nat} {w wr w2 w3 : World} {m m2 : Nat} {t : ByteArray} {p : List UInt8} {k k2 : Nat} {o o2 o3 : Ob} {s s2 : St}
theorem wayA.low (h : wayA a0 w wr m t p k o s) (hO : ordM w) : Ih.low m o := fun i hi => by
  have h1 := h.l i hi
  have h2 := hO.1
  omega
theorem wayA.did (h : wayA a0 w wr m t p k o s) (u2 : up a0 w2 m t p o2 k2 s2) (d : did wr m o w2 o2) : wayA a0 w w2 m t p k2 o2 s2 :=
  ⟨u2, fun i hi => (d.nw i hi).elim (h.l i) (fun e => Nat.le_trans h.b.size e), d.on.below h.b h.b.size h.l⟩
theorem wayA.below (h : wayA a0 w wr m t p k o s) (b : Below wr.heap.size wr w2) : wayA a0 w w2 m t p k o s :=
  ⟨h.u.below b, h.l, grows h.b b⟩
/-- A copy takes its place; the machine itself goes on. -/
theorem wayA.copied (h : wayA a0 w wr m t p k o s) (c : mach w2 m2 t p o2 k s) (l2 : ∀ i, own m2 o2 i → wr.heap.size ≤ i) (b2 : Below wr.heap.size wr w2) (d : Ic.did w2 m o w3 o3) : wayA a0 w w3 m2 t p k o2 s :=
  ⟨⟨c.keep d.on (fun i hi e => by have h1 := l2 i hi; have h2 := h.u.m.lt e; omega) (fun i hi _ => (h.u.m.below b2).notab hi), h.u.v, h.u.d⟩, fun i hi => Nat.le_trans h.b.size (l2 i hi), d.on.below (grows h.b b2) (grows h.b b2).size h.l⟩
end
/-- What the reference made, in memory. -/
structure made (wr : World) (B Y : Nat) (S : ByteArray) (An : Option Addr) (nn cn : Nat) (xe E : Int) (L : List (Nat × Nat)) : Prop where
  y : Blk wr Y 34 #[.string S, .slice An nn cn, .int .i64 xe, .int .i64 E]
  s : rst B wr (.slice An nn cn) L
theorem made.below {wr w2 : World} {B Y : Nat} {S : ByteArray} {An : Option Addr} {nn cn : Nat} {xe E : Int} {L : List (Nat × Nat)} (h : made wr B Y S An nn cn xe E L) (b : Below wr.heap.size wr w2) : made w2 B Y S An nn cn xe E L := ⟨h.y.below b, h.s.below b⟩
theorem own_kind {w : World} {m : Nat} {t : ByteArray} {p : List UInt8} {o : Ob} {k : Nat} {s : St} (h : mach w m t p o k s) {i : Nat} (hi : own m o i) : ∃ ty cs, Blk w i ty cs ∧ ty ≠ 34 ∧ ty ≠ 80 := by
  rcases hi with rfl | hi
  · exact ⟨_, _, h.b, by decide, by decide⟩
  · obtain ⟨ty, cs, hb, h1⟩ := h.h.kind hi
    refine ⟨ty, cs, hb, ?_⟩
    rcases h1 with ⟨rfl, _⟩ | ⟨rfl, _⟩ | ⟨rfl, _⟩ | ⟨rfl, _⟩ <;> exact ⟨by decide, by decide⟩
theorem made.did {wr w2 : World} {B Y : Nat} {S : ByteArray} {An : Option Addr} {nn cn : Nat} {xe E : Int} {L : List (Nat × Nat)} {m : Nat} {t : ByteArray} {p : List UInt8} {o : Ob} {k : Nat} {s : St} (h : made wr B Y S An nn cn xe E L) (hm : mach wr m t p o k s) (d : Only (own m o) wr w2) : made w2 B Y S An nn cn xe E L := by
  refine ⟨h.y.only d (fun e => ?_), h.s.only d (fun i hi e => ?_)⟩
  · obtain ⟨ty, cs, hb, h1, _⟩ := own_kind hm e
    exact Blk.apart hb h.y h1 rfl
  · obtain ⟨ty, cs, hb, _, h2⟩ := own_kind hm e
    obtain ⟨cur, hc⟩ := rst_blk h.s hi
    exact Blk.apart hb hc h2 rfl
/-- What Step answers, and what is wanted of it. -/
structure told (T : List UInt8) (E z : Int) (k : Nat) (S : ByteArray) (g : Int) (k' : Nat) : Prop where
  fs : k' = k + S.size
  fk : k' ≤ T.length
  fw : (z < 1 ∧ S = ⟨#[]⟩ ∧ g = 1) ∨ (1 ≤ z ∧ k < T.length ∧ g = 0 ∧ S.data.toList = (T.drop k).take z.toNat) ∨ (1 ≤ z ∧ k = T.length ∧ S = ⟨#[]⟩ ∧ g = E)
theorem step_told {a0 : Nat} {w w1 : World} {m : Nat} {t : ByteArray} {p : List UInt8} {k : Nat} {o : Ob} {s : St} {E : Int} {L : List (Nat × Nat)} {En : Nat} {T : List UInt8} (HR : (E, L, En, T) = tot t a0 p) (h : wayA a0 w1 w m t p k o s) (hO1 : ordM w1) (h6 : t.size ≤ 600) (ha0 : a0 ≤ 8 * t.size) (hk : k ≤ T.length) (z : Int) (hz : z ≤ 9223372036854775807) :
    ∃ S g k', told T E z k S g k' ∧ Calls Tryz.prog 12 #[.pointer (some ⟨m, 0, none⟩), .int .i64 z] w fun e w' => e = .returned (.tuple #[.string S, .int .i64 g]) ∧ (∃ s' o', wayA a0 w1 w' m t p k' o' s') ∧ Only (own m o) w w' := by
  by_cases h1 : z < 1
  · exact ⟨⟨#[]⟩, 1, k, ⟨rfl, hk, .inl ⟨h1, rfl, rfl⟩⟩, (Step_arg h.u h1).mono (fun e w' ⟨he, hw⟩ => ⟨he, ⟨s, o, by rw [← hw]; exact h⟩, by rw [← hw]; exact Only.refl _ _⟩)⟩
  · obtain ⟨n, rfl⟩ := Int.eq_ofNat_of_zero_le (show 0 ≤ z by omega)
    have c := Step_any h.u (hO1.below h.b) (h.low hO1) h6 ha0 (n := n) (by omega) (by omega)
    unfold steps next at c
    rw [← HR] at c
    dsimp only at c
    have hn : (Int.ofNat n) = (n : Int) := rfl
    by_cases h2 : k < T.length
    · rw [if_pos h2] at c
      have hs : (⟨((T.drop k).take n).toArray⟩ : ByteArray).size = ((T.drop k).take n).length := by show Array.size _ = _; simp
      refine ⟨⟨((T.drop k).take n).toArray⟩, 0, k + ((T.drop k).take n).length, ⟨by rw [hs], by rw [List.length_take, List.length_drop]; omega, .inr (.inl ⟨by omega, h2, rfl, by rw [Int.toNat_natCast]⟩)⟩, c.mono (fun e w' ⟨s', o', he, hu, hd⟩ => ⟨he, ⟨s', o', h.did hu hd⟩, hd.on⟩)⟩
    · have hkT : k = T.length := by omega
      rw [if_neg h2, hkT, List.drop_eq_nil_of_le (Nat.le_refl _), List.take_nil, ← hkT] at c
      refine ⟨⟨#[]⟩, E, k, ⟨rfl, hk, .inr (.inr ⟨by omega, hkT, rfl, rfl⟩)⟩, c.mono (fun e w' ⟨s', o', he, hu, hd⟩ => ⟨he, ⟨s', o', h.did hu hd⟩, hd.on⟩)⟩
theorem done_is {s : ByteArray} {a0 k' : Nat} {p : List UInt8} {bd : Bool} {E : Int} {L : List (Nat × Nat)} {En : Nat} {T : List UInt8} (HR : (E, L, En, T) = tot s a0 p) (h : doneB s a0 p k' bd) : bd = decide (k' = T.length ∧ E = 0) := by
  unfold doneB at h
  rw [← HR] at h
  dsimp only at h
  cases bd
  · exact (decide_eq_false (fun hh => by have := h.2 hh; cases this)).symm
  · exact (decide_eq_true (h.1 rfl)).symm
theorem done_same {s : ByteArray} {a0 k' : Nat} {p : List UInt8} {b c : Bool} (h : doneB s a0 p k' b) (g : doneB s a0 p k' c) : b = c := by
  unfold doneB at h g
  cases b <;> cases c
  · rfl
  · exact (h.2 (g.1 rfl))
  · exact (g.2 (h.1 rfl)).symm
  · rfl
section
variable {a0 : Nat} {w u : World} {m : Nat} {t : ByteArray} {p : List UInt8} {k : Nat} {o : Ob} {s : St} {E : Int} {L : List (Nat × Nat)} {En : Nat} {T : List UInt8}
theorem starts_no (h : up a0 u m t p o k s) (hL : s.L.length ≤ 1000000) (hd : doneB t a0 p k false) : Calls Tryz.prog 17 #[.pointer (some ⟨m, 0, none⟩)] u fun e w' => ∃ v', e = .returned v' ∧ strt u.heap.size w' v' [] ∧ Below u.heap.size u w' := by
  obtain ⟨b, hb, c⟩ := Starts_any h hL
  obtain rfl := done_same hb hd
  rw [if_neg (by decide)] at c
  exact c
theorem starts_yes (HR : (E, L, En, T) = tot t a0 p) (h : up a0 u m t p o k s) (hL : s.L.length ≤ 1000000) (hd : doneB t a0 p k true) : Calls Tryz.prog 17 #[.pointer (some ⟨m, 0, none⟩)] u fun e w' => ∃ v', e = .returned v' ∧ strt u.heap.size w' v' L ∧ Below u.heap.size u w' := by
  obtain ⟨b, hb, c⟩ := Starts_any h hL
  obtain rfl := done_same hb hd
  rw [if_pos rfl, ← HR] at c
  exact c
theorem end_no (h : up a0 u m t p o k s) (hd : doneB t a0 p k false) : Calls Tryz.prog 18 #[.pointer (some ⟨m, 0, none⟩)] u fun e w' => e = .returned (.int .i64 0) ∧ u = w' := by
  obtain ⟨b, hb, c⟩ := End_any h
  obtain rfl := done_same hb hd
  rw [if_neg (by decide)] at c
  exact c
theorem end_yes (HR : (E, L, En, T) = tot t a0 p) (h : up a0 u m t p o k s) (hd : doneB t a0 p k true) : Calls Tryz.prog 18 #[.pointer (some ⟨m, 0, none⟩)] u fun e w' => e = .returned (.int .i64 (En : Int)) ∧ u = w' := by
  obtain ⟨b, hb, c⟩ := End_any h
  obtain rfl := done_same hb hd
  rw [if_pos rfl, ← HR] at c
  exact c
end

section
variable {P : Program} {ops : Array Oper} {Q : Exit → Act → World → Prop} {md : Region.Mode} {S : World → Prop}
/-- One operation is taken first; the slot it fills is named. -/
theorem takeH {i : Nat} {oi : Oper} {d : Option Tmp} {v : Value} {fuel : Nat} {listed : Array Bool} {a : Act} {w : World} (hi : ops[i]? = some oi) (hd : oi.dst = d)
    (hs : Region.noSelect ops = true) (hf : Region.free md ops listed i = true) (hr : (Region.ready md ops listed).contains i = true)
    (hQ : ∀ c a w, Q (.panic c) (a.put d v) w → Q (.panic c) a w) (hy : YieldsIf P ops S oi v a) (hS : S w)
    (h : wpAnyH P md ops Q S fuel (listed.setIfInBounds i true) (a.put d v) w) : wpAnyH P md ops Q S (fuel + 1) listed a w := by
  subst hd
  exact wpAnyH_take hi hs hf hr hQ hy hS h
/-- One operation alone comes up next. -/
theorem readyH {i : Nat} {o : Oper} {d : Option Tmp} {fuel : Nat} {listed : Array Bool} {a : Act} {w : World} (ho : ops[i]? = some o) (hd : o.dst = d)
    (h : ∀ K' : Act → World → Prop, Shut (∀ a w, S w → (S w → wpAnyH P md ops Q S fuel (listed.setIfInBounds i true) a w) → K' a w) → if Region.wanted o (yielded ops a.tmps) = true then Oper.wp P o a w K' Q else K' (a.put d undef) w) :
    AllReadyH P md ops Q S fuel listed a w [i] := by
  subst hd
  exact AllReadyH.cons ho h AllReadyH.nil
end
/-- An operation that is not wanted. -/
theorem no_arm {c : Bool} {A B : Prop} (h : c = false) (k : B) : if c = true then A else B := by
  rw [if_neg (by rw [h]; exact Bool.false_ne_true)]
  exact k
set_option maxHeartbeats 4000000 in
set_option maxRecDepth 100000 in
theorem walk (s : ByteArray) (z : Int) (q : ByteArray) (A1 : Option Addr) (n1 c1 : Nat) (f1 : Nat → Int) (A2 : Option Addr) (n2 c2 : Nat) (f2 : Nat → Bool) (w : World) (_ws : s.size ≤ maxLen) (wz : (Lit.int .i64 z).wf = true) (_wq : q.size ≤ maxLen)
    (l1 : n1 ≤ 9223372036854775807) (r1 : row w A1 n1 f1) (hf1 : ∀ i, i < n1 → f1 i ≤ 9223372036854775807) (_l2 : n2 ≤ 9223372036854775807) (r2 : rowB w A2 n2 f2) (hO : ordM w) :
    Calls Tryz.prog 3 #[.agg #[.string s, .int .i64 z, .string q, .slice A1 n1 c1, .slice A2 n2 c2]] w fun e w' => e = .returned (.bool true) ∧ Below w.heap.size w w' := by
  have HS := Lib.hid (fun u => small_any s q u)
  have HK := Lib.hid (fun u (h : ordM u) => known_any u h)
  have b0 : Below w.heap.size w (w.alloc (.cells #[.string s, .int .i64 z, .string q, .slice A1 n1 c1, .slice A2 n2 c2] 25)) := below_alloc _ _
  have k0 := Blk.fresh w 25 #[.string s, .int .i64 z, .string q, .slice A1 n1 c1, .slice A2 n2 c2]
  obtain ⟨w0, hw0⟩ : ∃ w0, w0 = w.alloc (.cells #[.string s, .int .i64 z, .string q, .slice A1 n1 c1, .slice A2 n2 c2] 25) := ⟨_, rfl⟩
  obtain ⟨C, hC⟩ : ∃ C, C = w.heap.size := ⟨_, rfl⟩
  rw [← hw0] at b0 k0
  rw [← hC] at k0
  have B0 := Lib.hid b0
  have K0 := Lib.hid k0
  have HO := Lib.hid (hO.below b0)
  have R1 := Lib.hid (r1.below b0)
  have R2 := Lib.hid (r2.below b0)
  have HF1 := Lib.hid hf1
  have x0 : w0.cell? ⟨C, 0, none⟩ = some (.string s) := k0.cell 0
  have x1 : w0.cell? ⟨C, 1, none⟩ = some (.int .i64 z) := k0.cell 1
  have x2 : w0.cell? ⟨C, 2, none⟩ = some (.string q) := k0.cell 2
  clear _ws _wq hO r1 r2 b0 k0 hf1
  by_cases h1 : s.size ≤ 600 ∧ q.size ≤ 40000
  · rw [decide_eq_true h1] at HS
    have hz : -9223372036854775808 ≤ z ∧ z ≤ 9223372036854775807 := by simpa [Lit.wf, IntKind.min, IntKind.max, IntKind.signed, IntKind.bits] using wz
    have hsz : (s.size : Int) ≤ 600 := by omega
    by_cases hr : z < 0 ∨ 8 * (s.size : Int) < z
    · have HA := Lib.hid (fun u => Ik.New_no s z q u (by omega) hr)
      clear wz h1
      rcases (show z < 0 ∨ (¬ z < 0 ∧ 8 * (s.size : Int) < z) by omega) with h2 | ⟨h2, h3⟩
      all_goals
        clear hr
        go_enter Tryz.func3, Tryz.ntmps3
        go_wp2_with fail
        rw [← hw0]
        rw [← hC]
        clear hw0 hC
        refine (HS.out _).mono ?_
        rintro e w' ⟨rfl, rfl⟩
        go_wp2_with fail
        refine (HA.out _).mono ?_
        rintro e w' ⟨rfl, rfl⟩
        go_wp2_with fail
        refine (HK.out _ HO.out).mono ?_
        rintro e w2 ⟨rfl, b2⟩
        go_wp2
        go_ret
        exact ⟨rfl, grows B0.out b2⟩
    · obtain ⟨a0, rfl⟩ := Int.eq_ofNat_of_zero_le (show 0 ≤ z by omega)
      have ha : a0 ≤ 8 * s.size := by omega
      have HNW := Lib.hid (fun u (hu : ordM u) => New_yes s a0 q u hu h1.1 ha (by omega))
      have HRA := Lib.hid (fun u => rAll_any (w := u) h1.1 ha h1.2)
      have hz0 : ¬ (a0 : Int) < 0 := by omega
      have hz1 : ¬ 8 * (s.size : Int) < (a0 : Int) := by omega
      have hzb0 : decide ((a0 : Int) < 0) = false := by simp
      have hzb1 : decide (8 * (s.size : Int) < (a0 : Int)) = false := by simp; omega
      obtain ⟨p, hpe⟩ : ∃ p, p = Wm.lastN 32768 q.data.toList := ⟨_, rfl⟩
      rw [← hpe] at HNW HRA
      have H6 := Lib.hid h1.1
      have HA0 := Lib.hid ha
      have HLM := Lib.hid (lim_600 (N := num s.data.toList) (p := p) h1.1 ha)
      clear wz hz h1 hpe hr ha
      go_enter Tryz.func3, Tryz.ntmps3
      go_wp2_with fail
      rw [← hw0]
      rw [← hC]
      clear hw0 hC
      refine (HS.out _).mono ?_
      rintro e w' ⟨rfl, rfl⟩
      go_wp2_with fail
      refine (HNW.out _ HO.out).mono ?_
      rintro e w2 ⟨m, o, st, rfl, hu, hlo, hb⟩
      have W2 : Hid (wayA a0 w0 w2 m s p 0 o st) := Lib.hid ⟨hu, hlo, hb⟩
      have K2 := Lib.hid (K0.out.below hb)
      have HR2 := Lib.hid (HRA.out w2)
      unfold allR at HR2
      clear hu hlo hb HNW HRA x0 x1 x2
      have x0 : w2.cell? ⟨C, 0, none⟩ = some (.string s) := K2.out.cell 0
      have x1 : w2.cell? ⟨C, 1, none⟩ = some (.int .i64 (a0 : Int)) := K2.out.cell 1
      have x2 : w2.cell? ⟨C, 2, none⟩ = some (.string q) := K2.out.cell 2
      obtain ⟨R, hR⟩ : ∃ R, R = tot s a0 p := ⟨_, rfl⟩
      have HR := Lib.hid hR
      have HLM2 : Hid (R.2.2.2.length ≤ 9000000 ∧ R.2.1.length ≤ 1000000) := Lib.hid (by rw [hR]; exact ⟨HLM.out.T, HLM.out.L⟩)
      rw [← hR] at HR2
      clear hR
      obtain ⟨E, L, En, T⟩ := R
      dsimp only at HR2 HLM2
      obtain ⟨S, hS⟩ : ∃ S : ByteArray, S = ⟨T.toArray⟩ := ⟨_, rfl⟩
      rw [← hS] at HR2
      have HST : Hid (S.data.toList = T) := Lib.hid (by rw [hS])
      have HSZ : Hid (S.size = T.length) := Lib.hid (by rw [hS]; show Array.size _ = _; simp)
      clear hS
      go_wp2_with fail
      refine HR2.out.mono ?_
      rintro e w3 ⟨vS, xe, rfl, hrs, hx, b3⟩
      obtain ⟨An, cn, hvn, _⟩ := hrs.form
      subst hvn
      have hrs : rst w2.heap.size w3 (.slice An L.length cn) L := hrs
      obtain ⟨nn, hnn⟩ : ∃ nn, nn = L.length := ⟨_, rfl⟩
      rw [← hnn] at hrs ⊢
      have RS3 := Lib.hid hrs
      have HX := Lib.hid hx
      have B3 := Lib.hid b3
      clear b3 hrs hnn hx x0 x1 x2 HR2
      obtain ⟨w4, hw4⟩ : ∃ w4, w4 = w3.alloc (.cells #[.string S, .slice An nn cn, .int .i64 xe, .int .i64 E] 34) := ⟨_, rfl⟩
      obtain ⟨Y, hY⟩ : ∃ Y, Y = w3.heap.size := ⟨_, rfl⟩
      have B4 : Hid (Below w3.heap.size w3 w4) := Lib.hid (by rw [hw4]; exact (Below.refl _ w3).alloc (Nat.le_refl _) _)
      have K4 : Hid (Blk w4 Y 34 #[.string S, .slice An nn cn, .int .i64 xe, .int .i64 E]) := Lib.hid (by rw [hw4, hY]; exact Blk.fresh _ _ _)
      have B24 := Lib.hid (grows B3.out B4.out)
      have RS4 := Lib.hid (RS3.out.below B4.out)
      have W4 := Lib.hid (W2.out.below B24.out)
      have C4 := Lib.hid (K2.out.below B24.out)
      go_wp2_with fail
      rw [← hw4, ← hY]
      clear hw4 hY
      go_loopg [3, 6, 7] n1 (fun gk s3 s6 s7 wr => ∃ (j k m' : Nat) (o' : Ob) (st' : St), s3 = .pointer (some ⟨m', 0, none⟩) ∧ s6 = .int .i64 (k : Int) ∧ s7 = .int .i64 (j : Int) ∧ j ≤ n1 ∧ gk = n1 - j ∧ Hid (k ≤ T.length) ∧ Hid (wayA a0 w0 wr m' s p k o' st') ∧ Hid (made wr w2.heap.size Y S An nn cn xe E L))
      case atStart => exact ⟨0, 0, m, o, st, rfl, rfl, rfl, Nat.zero_le _, by omega, Lib.hid (Nat.zero_le _), W4, Lib.hid ⟨K4.out, RS4.out⟩⟩
      case round =>
        obtain ⟨j, k, m', o', st', rfl, rfl, rfl, hj, hgk, HKT, HW, HB⟩ := hrel
        have HGK := Lib.hid hgk
        clear hgk
        have CR := Lib.hid (K0.out.below HW.out.b)
        have x3 : wr.cell? ⟨C, 3, none⟩ = some (.slice A1 n1 c1) := CR.out.cell 3
        have x4 : wr.cell? ⟨C, 4, none⟩ = some (.slice A2 n2 c2) := CR.out.cell 4
        by_cases hjn : j < n1 ∧ j < 40
        · have hj1 : (j : Int) < (n1 : Int) := by omega
          have hj40 : (j : Int) < 40 := by omega
          obtain ⟨TB, hTB⟩ : ∃ TB : Bool, TB = decide (j < n2 ∧ f2 j = true) := ⟨_, rfl⟩
          have HTB := Lib.hid hTB
          have HJN := Lib.hid hjn
          clear hTB hjn
          go_upto_region 13 with fail
          go_cut [88] (fun s88 wx => s88 = .bool TB ∧ wx = wr)
          case first =>
            by_cases h2 : j < n2
            · have hj2 : (j : Int) < (n2 : Int) := by omega
              obtain ⟨bb, off, hA, hbb, hcell⟩ := (R2.out.below HW.out.b) j h2
              subst hA
              have hjz : (0 : Int) ≤ (j : Int) := by omega
              obtain ⟨fb, hfb⟩ : ∃ fb, fb = f2 j := ⟨_, rfl⟩
              rw [← hfb] at hcell
              have HFB := Lib.hid hfb
              have HJ2 := Lib.hid h2
              clear hfb hbb h2
              go_wp2_with fail
              go_meet
              exact ⟨by rw [HTB.out, ← HFB.out]; simp [HJ2.out], rfl⟩
            · have hj2 : ¬ (j : Int) < (n2 : Int) := by omega
              have HJ2 := Lib.hid h2
              clear h2
              go_wp2_with fail
              go_meet
              exact ⟨by rw [HTB.out]; simp [HJ2.out], rfl⟩
          case rest =>
            obtain ⟨rfl, rfl⟩ := hcut
            go_upto_if 88 with fail
            go_cut [3] (fun s3 wx => ∃ m2 o2, s3 = .pointer (some ⟨m2, 0, none⟩) ∧ Hid (wayA a0 w0 wx m2 s p k o2 st') ∧ Hid (made wx w2.heap.size Y S An nn cn xe E L))
            case first =>
              cases TB
              · go_wp2_with fail
                go_meet
                exact ⟨m', o', rfl, HW, HB⟩
              · have HC := Lib.hid (mCopy_any HW.out.u.m (HW.out.u.len HLM.out) (HW.out.u.v.fewL HLM.out))
                go_wp2_with fail
                refine HC.out.mono ?_
                rintro e wx ⟨m2, o2, rfl, cm, cl, cb⟩
                have HD := Lib.hid (Step_any (HW.out.u.below cb) (HO.out.below (grows HW.out.b cb)) (HW.out.low HO.out) H6.out HA0.out (n := 3) (by omega) (by omega))
                have CM := Lib.hid cm
                have CL := Lib.hid cl
                have CB := Lib.hid cb
                have HD2 : Hid (Calls Tryz.prog 12 #[.pointer (some ⟨m', 0, none⟩), .int .i64 3] wx fun e w' => ∃ (S9 : ByteArray) (g9 : Int), e = .returned (.tuple #[.string S9, .int .i64 g9]) ∧ ∃ k9 s3 o3, up a0 w' m' s p o3 k9 s3 ∧ Ic.did wx m' o' w' o3) := Lib.hid (HD.out.mono (fun e w' ⟨s3, o3, he, u3, d3⟩ => ⟨_, _, he, _, s3, o3, u3, d3⟩))
                clear cm cl cb HC HD
                go_wp2_with fail
                refine HD2.out.mono ?_
                rintro e wy ⟨S9, g9, rfl, k9, s3, o3, u3, d3⟩
                have HWY := Lib.hid (HW.out.copied CM.out CL.out CB.out d3)
                have HMY := Lib.hid ((HB.out.below CB.out).did (HW.out.u.below CB.out).m d3.on)
                clear u3 d3 HD2
                go_wp2_with fail
                go_meet
                exact ⟨m2, o2, rfl, HWY, HMY⟩
            case rest =>
              obtain ⟨m2, o2, rfl, HW2, HM2⟩ := hcut
              obtain ⟨bb, off, hA, hbb, hcell⟩ := (R1.out.below HW2.out.b) j HJN.out.1
              subst hA
              obtain ⟨zz, hzz⟩ : ∃ zz, zz = f1 j := ⟨_, rfl⟩
              rw [← hzz] at hcell
              obtain ⟨S2, g, k', ht, hc⟩ := step_told HR.out HW2.out HO.out H6.out HA0.out HKT.out zz (by rw [hzz]; exact HF1.out j HJN.out.1)
              have HT := Lib.hid ht
              have HC := Lib.hid hc
              have hTL := HLM2.out.1
              have hsum : IntKind.i64.wrap ((k : Int) + (S2.size : Int)) = (k' : Int) := by
                have h1 := ht.fs
                have h2 := ht.fk
                rw [IntKind.wrap_i64]; omega
              have y3 : wc.cell? ⟨C, 3, none⟩ = some (.slice (some ⟨bb, off, none⟩) n1 c1) := (K0.out.below HW2.out.b).cell 3
              have hjz : (0 : Int) ≤ (j : Int) := by omega
              have HSUM := Lib.hid hsum
              clear ht hc hTL hzz hbb hsum x3 x4
              go_wp2_with fail
              refine HC.out.mono ?_
              rintro e w5 ⟨rfl, ⟨s5, o5, hw5⟩, hon⟩
              have HW5 := Lib.hid hw5
              have HM5 := Lib.hid (HM2.out.did HW2.out.u.m hon)
              clear hw5 hon y3 hcell HC HM2 HW2 HB HW CR
              have m0 : w5.cell? ⟨Y, 0, none⟩ = some (.string S) := HM5.out.y.cell 0
              have m3 : w5.cell? ⟨Y, 3, none⟩ = some (.int .i64 E) := HM5.out.y.cell 3
              go_upto_if 108 with fail
              go_cut [12, 13] (fun s12 s13 wx => s12 = .string S2 ∧ s13 = .int .i64 g ∧ wx = w5)
              case first =>
                rcases HT.out.fw with ⟨h1, h2, h3⟩ | ⟨h1, h2, h3, h4⟩ | ⟨h1, h2, h3, h4⟩
                · have E2 := Lib.hid h2
                  have E3 := Lib.hid h3
                  clear h2 h3
                  go_wp2_with fail
                  go_meet
                  exact ⟨by rw [E2.out], by rw [E3.out], rfl⟩
                · have E3 := Lib.hid h3
                  have h1' : ¬ zz < 1 := by omega
                  have hkS : (k : Int) < (S.size : Int) := by have := HSZ.out; omega
                  obtain ⟨d, hd⟩ : ∃ d, d = S.size - k := ⟨_, rfl⟩
                  have hl := HLM2.out.1
                  have hz5 := HSZ.out
                  have hsub : IntKind.i64.wrap ((S.size : Int) - (k : Int)) = (d : Int) := by rw [IntKind.wrap_i64]; omega
                  have hlen : S2.size = min zz.toNat d := by
                    have e := congrArg List.length h4
                    rw [Array.length_toList, List.length_take, List.length_drop] at e
                    rw [hd, hz5]; exact e
                  have hmin : min zz (d : Int) = (S2.size : Int) := by omega
                  have hs1 := HT.out.fs
                  have hs2 := HT.out.fk
                  have hle1 : (k : Int) ≤ (k' : Int) := by omega
                  have hle2 : (k' : Int) ≤ (S.size : Int) := by omega
                  have hS2 : S2 = S.extract k k' := by
                    refine ba_ext ?_
                    rw [h4, ByteArray.data_extract, Array.toList_extract, ← HST.out, List.extract_eq_take_drop]
                    have e1 : S.data.toList.length = S.size := Array.length_toList
                    rw [show k' - k = min zz.toNat d by omega]
                    rcases Nat.le_total zz.toNat d with h5 | h5
                    · rw [Nat.min_eq_left h5]
                    · rw [Nat.min_eq_right h5, List.take_of_length_le (by rw [List.length_drop, e1]; omega), List.take_of_length_le (by rw [List.length_drop, e1]; omega)]
                  have hsl : (Instr.slice 9 (.string S) (some (.int .i64 (k : Int))) (some (.int .i64 (k' : Int))) none).run Tryz.prog w5 = .ok (.string S2) w5 := by
                    have g1 : ¬ S.size < k' := by omega
                    have g2 : k ≤ k' := by omega
                    rw [hS2]; clear hS2 h4 hlen hs1 hs2 hz5 hd; go_simp
                  have hsum := HSUM.out
                  clear h1 h2 h3 h4 hd hlen hs1 hs2 hl hz5 hS2
                  go_wp2_with fail
                  go_meet
                  exact ⟨rfl, by rw [E3.out], rfl⟩
                · have E3 := Lib.hid h3
                  have E4 := Lib.hid h4
                  have h1' : ¬ zz < 1 := by omega
                  have hkS : ¬ (k : Int) < (S.size : Int) := by have := HSZ.out; omega
                  clear h1 h2 h3 h4
                  go_wp2_with fail
                  go_meet
                  exact ⟨by rw [E3.out], by rw [E4.out], rfl⟩
              case rest =>
                obtain ⟨rfl, rfl, rfl⟩ := hcut
                have HRN : Hid (k' ≤ T.length) := Lib.hid HT.out.fk
                obtain ⟨DB, hDB⟩ : ∃ DB : Bool, DB = decide (k' = T.length ∧ E = 0) := ⟨_, rfl⟩
                have HDB := Lib.hid hDB
                have m0' : wc.cell? ⟨Y, 0, none⟩ = some (.string S) := m0
                have hsum := HSUM.out
                have HSZ5 := HSZ.out
                clear hDB
                go_upto_region 29 with fail
                go_cut [14] (fun s14 wx => s14 = .bool DB ∧ wx = wc)
                case first =>
                  by_cases hk : k' = T.length
                  · have hkb : ((k' : Int) == (S.size : Int)) = true := by simp; omega
                    by_cases hE : E = 0
                    · have hEb : (E == 0) = true := by simp [hE]
                      have HK1 := Lib.hid hk
                      have HE1 := Lib.hid hE
                      clear hk hE HSZ5
                      go_wp2_with fail
                      go_meet
                      exact ⟨by rw [HDB.out, decide_eq_true ⟨HK1.out, HE1.out⟩], rfl⟩
                    · have hEb : (E == 0) = false := by simp [hE]
                      have HE1 := Lib.hid hE
                      clear hk hE HSZ5
                      go_wp2_with fail
                      go_meet
                      exact ⟨by rw [HDB.out, decide_eq_false (fun h => HE1.out h.2)], rfl⟩
                  · have hkb : ((k' : Int) == (S.size : Int)) = false := by simp; omega
                    have HK1 := Lib.hid hk
                    clear hk HSZ5
                    go_wp2_with fail
                    go_meet
                    exact ⟨by rw [HDB.out, decide_eq_false (fun h => HK1.out h.1)], rfl⟩
                case rest =>
                  obtain ⟨rfl, hwx⟩ := hcut
                  subst hwx
                  have HOut := Lib.hid (Out_any HW5.out.u)
                  obtain ⟨bd, hbd, hDn⟩ := Done_any HW5.out.u
                  obtain rfl : DB = bd := HDB.out.trans (done_is HR.out hbd).symm
                  have HDn := Lib.hid hDn
                  have HDB2 : Hid (doneB s a0 p k' DB) := Lib.hid hbd
                  have HOS := Lib.hid (HO.out.below HW5.out.b)
                  have BD : Hid (Below wc.heap.size wc wc.drew) := Lib.hid (Below.refl wc.heap.size wc).drew
                  clear hDn hbd m0 m0' m3 hsum HSZ5
                  go_upto_region 32 with (first | (go_at_call 13; refine HOut.out.mono ?_; rintro e w' ⟨rfl, rfl⟩) | (go_at_call 14; refine HDn.out.mono ?_; rintro e w' ⟨rfl, rfl⟩))
                  cases DB
                  · -- not all is done
                    have HSt : Hid (∀ u, Below wc.heap.size wc u → Calls Tryz.prog 17 #[.pointer (some ⟨m2, 0, none⟩)] u fun e w' => ∃ v', e = .returned v' ∧ strt u.heap.size w' v' [] ∧ Below u.heap.size u w') := Lib.hid (fun u hu => starts_no (HW5.out.below hu).u ((HW5.out.below hu).u.v.fewL HLM.out) HDB2.out)
                    have HEn : Hid (∀ u, Below wc.heap.size wc u → Calls Tryz.prog 18 #[.pointer (some ⟨m2, 0, none⟩)] u fun e w' => e = .returned (.int .i64 0) ∧ u = w') := Lib.hid (fun u hu => end_no (HW5.out.below hu).u HDB2.out)
                    refine wp_region_held_drew (S := fun u => Below wc.heap.size wc u) (by kernel_rfl) BD.out (fun hHeld => ?_)
                    refine takeH (i := 0) (d := some 163) (v := ?v1) rfl rfl (by kernel_rfl) (by kernel_rfl) (by kernel_rfl) (fun _ _ _ h => h) (Or.inl ⟨by rfl, ?hy1⟩) (by assumption) ?rest1
                    case hy1 => (intro w9 hSw; (try dsimp only at hSw); first | (go_simp; done) | (go_simp; with_reducible rfl))
                    try simp only [Act.put, List.setIfInBounds_toArray, List.set_cons_zero, List.set_cons_succ]
                    refine takeH (i := 1) (d := some 164) (v := ?v2) rfl rfl (by kernel_rfl) (by kernel_rfl) (by kernel_rfl) (fun _ _ _ h => h) (Or.inl ⟨by rfl, ?hy2⟩) (by assumption) ?rest2
                    case hy2 => (intro w9 hSw; (try dsimp only at hSw); first | (go_simp; done) | (go_simp; with_reducible rfl))
                    try simp only [Act.put, List.setIfInBounds_toArray, List.set_cons_zero, List.set_cons_succ]
                    refine takeH (i := 2) (d := some 165) (v := undef) rfl rfl (by kernel_rfl) (by kernel_rfl) (by kernel_rfl) (fun _ _ _ h => h) (Or.inr ⟨by rfl, rfl⟩) (by assumption) ?_
                    try simp only [Act.put, List.setIfInBounds_toArray, List.set_cons_zero, List.set_cons_succ]
                    refine takeH (i := 3) (d := some 166) (v := undef) rfl rfl (by kernel_rfl) (by kernel_rfl) (by kernel_rfl) (fun _ _ _ h => h) (Or.inr ⟨by rfl, rfl⟩) (by assumption) ?_
                    try simp only [Act.put, List.setIfInBounds_toArray, List.set_cons_zero, List.set_cons_succ]
                    refine takeH (i := 4) (d := some 167) (v := undef) rfl rfl (by kernel_rfl) (by kernel_rfl) (by kernel_rfl) (fun _ _ _ h => h) (Or.inr ⟨by rfl, rfl⟩) (by assumption) ?_
                    try simp only [Act.put, List.setIfInBounds_toArray, List.set_cons_zero, List.set_cons_succ]
                    refine takeH (i := 5) (d := some 168) (v := undef) rfl rfl (by kernel_rfl) (by kernel_rfl) (by kernel_rfl) (fun _ _ _ h => h) (Or.inr ⟨by rfl, rfl⟩) (by assumption) ?_
                    try simp only [Act.put, List.setIfInBounds_toArray, List.set_cons_zero, List.set_cons_succ]
                    refine takeH (i := 6) (d := some 169) (v := undef) rfl rfl (by kernel_rfl) (by kernel_rfl) (by kernel_rfl) (fun _ _ _ h => h) (Or.inr ⟨by rfl, rfl⟩) (by assumption) ?_
                    try simp only [Act.put, List.setIfInBounds_toArray, List.set_cons_zero, List.set_cons_succ]
                    refine takeH (i := 7) (d := some 170) (v := undef) rfl rfl (by kernel_rfl) (by kernel_rfl) (by kernel_rfl) (fun _ _ _ h => h) (Or.inr ⟨by rfl, rfl⟩) (by assumption) ?_
                    try simp only [Act.put, List.setIfInBounds_toArray, List.set_cons_zero, List.set_cons_succ]
                    refine takeH (i := 8) (d := some 171) (v := undef) rfl rfl (by kernel_rfl) (by kernel_rfl) (by kernel_rfl) (fun _ _ _ h => h) (Or.inr ⟨by rfl, rfl⟩) (by assumption) ?_
                    try simp only [Act.put, List.setIfInBounds_toArray, List.set_cons_zero, List.set_cons_succ]
                    refine takeH (i := 9) (d := some 172) (v := undef) rfl rfl (by kernel_rfl) (by kernel_rfl) (by kernel_rfl) (fun _ _ _ h => h) (Or.inr ⟨by rfl, rfl⟩) (by assumption) ?_
                    try simp only [Act.put, List.setIfInBounds_toArray, List.set_cons_zero, List.set_cons_succ]
                    refine takeH (i := 10) (d := some 173) (v := undef) rfl rfl (by kernel_rfl) (by kernel_rfl) (by kernel_rfl) (fun _ _ _ h => h) (Or.inr ⟨by rfl, rfl⟩) (by assumption) ?_
                    try simp only [Act.put, List.setIfInBounds_toArray, List.set_cons_zero, List.set_cons_succ]
                    refine takeH (i := 11) (d := some 174) (v := undef) rfl rfl (by kernel_rfl) (by kernel_rfl) (by kernel_rfl) (fun _ _ _ h => h) (Or.inr ⟨by rfl, rfl⟩) (by assumption) ?_
                    try simp only [Act.put, List.setIfInBounds_toArray, List.set_cons_zero, List.set_cons_succ]
                    refine takeH (i := 12) (d := some 175) (v := undef) rfl rfl (by kernel_rfl) (by kernel_rfl) (by kernel_rfl) (fun _ _ _ h => h) (Or.inr ⟨by rfl, rfl⟩) (by assumption) ?_
                    try simp only [Act.put, List.setIfInBounds_toArray, List.set_cons_zero, List.set_cons_succ]
                    refine takeH (i := 13) (d := some 176) (v := undef) rfl rfl (by kernel_rfl) (by kernel_rfl) (by kernel_rfl) (fun _ _ _ h => h) (Or.inr ⟨by rfl, rfl⟩) (by assumption) ?_
                    try simp only [Act.put, List.setIfInBounds_toArray, List.set_cons_zero, List.set_cons_succ]
                    refine takeH (i := 14) (d := some 177) (v := undef) rfl rfl (by kernel_rfl) (by kernel_rfl) (by kernel_rfl) (fun _ _ _ h => h) (Or.inr ⟨by rfl, rfl⟩) (by assumption) ?_
                    try simp only [Act.put, List.setIfInBounds_toArray, List.set_cons_zero, List.set_cons_succ]
                    refine takeH (i := 15) (d := some 178) (v := undef) rfl rfl (by kernel_rfl) (by kernel_rfl) (by kernel_rfl) (fun _ _ _ h => h) (Or.inr ⟨by rfl, rfl⟩) (by assumption) ?_
                    try simp only [Act.put, List.setIfInBounds_toArray, List.set_cons_zero, List.set_cons_succ]
                    refine takeH (i := 16) (d := some 179) (v := ?v3) rfl rfl (by kernel_rfl) (by kernel_rfl) (by kernel_rfl) (fun _ _ _ h => h) (Or.inl ⟨by rfl, ?hy3⟩) (by assumption) ?rest3
                    case hy3 => (intro w9 hSw; (try dsimp only at hSw); first | (go_simp; done) | (go_simp; with_reducible rfl))
                    try simp only [Act.put, List.setIfInBounds_toArray, List.set_cons_zero, List.set_cons_succ]
                    refine takeH (i := 17) (d := some 180) (v := ?v4) rfl rfl (by kernel_rfl) (by kernel_rfl) (by kernel_rfl) (fun _ _ _ h => h) (Or.inl ⟨by rfl, ?hy4⟩) (by assumption) ?rest4
                    case hy4 => (intro w9 hSw; (try dsimp only at hSw); first | (go_simp; done) | (go_simp; with_reducible rfl))
                    try simp only [Act.put, List.setIfInBounds_toArray, List.set_cons_zero, List.set_cons_succ]
                    refine takeH (i := 18) (d := some 181) (v := ?v5) rfl rfl (by kernel_rfl) (by kernel_rfl) (by kernel_rfl) (fun _ _ _ h => h) (Or.inl ⟨by rfl, ?hy5⟩) (by assumption) ?rest5
                    case hy5 => (intro w9 hSw; (try dsimp only at hSw); first | (go_simp; done) | (go_simp; with_reducible rfl))
                    try simp only [Act.put, List.setIfInBounds_toArray, List.set_cons_zero, List.set_cons_succ]
                    refine takeH (i := 19) (d := some 182) (v := ?v6) rfl rfl (by kernel_rfl) (by kernel_rfl) (by kernel_rfl) (fun _ _ _ h => h) (Or.inl ⟨by rfl, ?hy6⟩) (by assumption) ?rest6
                    case hy6 => (intro w9 hSw; (try dsimp only at hSw); first | (go_simp; done) | (go_simp; with_reducible rfl))
                    try simp only [Act.put, List.setIfInBounds_toArray, List.set_cons_zero, List.set_cons_succ]
                    refine takeH (i := 20) (d := some 183) (v := ?v7) rfl rfl (by kernel_rfl) (by kernel_rfl) (by kernel_rfl) (fun _ _ _ h => h) (Or.inl ⟨by rfl, ?hy7⟩) (by assumption) ?rest7
                    case hy7 => (intro w9 hSw; (try dsimp only at hSw); first | (go_simp; done) | (go_simp; with_reducible rfl))
                    try simp only [Act.put, List.setIfInBounds_toArray, List.set_cons_zero, List.set_cons_succ]
                    refine takeH (i := 21) (d := some 184) (v := ?v8) rfl rfl (by kernel_rfl) (by kernel_rfl) (by kernel_rfl) (fun _ _ _ h => h) (Or.inl ⟨by rfl, ?hy8⟩) (by assumption) ?rest8
                    case hy8 => (intro w9 hSw; (try dsimp only at hSw); first | (go_simp; done) | (go_simp; with_reducible rfl))
                    try simp only [Act.put, List.setIfInBounds_toArray, List.set_cons_zero, List.set_cons_succ]
                    refine wpAnyH_ready (rs := [22]) (by kernel_rfl) (by simp) ?_
                    refine readyH (d := some 185) rfl rfl (fun K hK => ?_)
                    go_simp
                    go_at_call 17
                    refine (HSt.out _ BD.out).mono ?_
                    rintro e u1 ⟨v1, rfl, hv1, hb1⟩
                    have U1 := Lib.hid (grows BD.out hb1)
                    obtain ⟨A9, cap9, hv9, _⟩ := hv1.form
                    have hv9' : v1 = .slice A9 0 cap9 := hv9
                    clear hv1 hb1 hv9
                    subst hv9'
                    go_wp2_with fail
                    refine hK.out _ _ U1.out (fun hHeld22 => ?_)
                    clear hK K
                    try simp only [Act.put, List.setIfInBounds_toArray, List.set_cons_zero, List.set_cons_succ]
                    refine takeH (i := 23) (d := some 186) (v := ?v9) rfl rfl (by kernel_rfl) (by kernel_rfl) (by kernel_rfl) (fun _ _ _ h => h) (Or.inl ⟨by rfl, ?hy9⟩) (by assumption) ?rest9
                    case hy9 => (intro w9 hSw; (try dsimp only at hSw); first | (go_simp; done) | (go_simp; with_reducible rfl))
                    try simp only [Act.put, List.setIfInBounds_toArray, List.set_cons_zero, List.set_cons_succ]
                    refine takeH (i := 24) (d := some 187) (v := ?v10) rfl rfl (by kernel_rfl) (by kernel_rfl) (by kernel_rfl) (fun _ _ _ h => h) (Or.inl ⟨by rfl, ?hy10⟩) (by assumption) ?rest10
                    case hy10 => (intro w9 hSw; (try dsimp only at hSw); first | (go_simp; done) | (go_simp; with_reducible rfl))
                    try simp only [Act.put, List.setIfInBounds_toArray, List.set_cons_zero, List.set_cons_succ]
                    refine takeH (i := 25) (d := some 188) (v := ?v11) rfl rfl (by kernel_rfl) (by kernel_rfl) (by kernel_rfl) (fun _ _ _ h => h) (Or.inl ⟨by rfl, ?hy11⟩) (by assumption) ?rest11
                    case hy11 => (intro w9 hSw; (try dsimp only at hSw); first | (go_simp; done) | (go_simp; with_reducible rfl))
                    try simp only [Act.put, List.setIfInBounds_toArray, List.set_cons_zero, List.set_cons_succ]
                    refine takeH (i := 26) (d := some 189) (v := ?v12) rfl rfl (by kernel_rfl) (by kernel_rfl) (by kernel_rfl) (fun _ _ _ h => h) (Or.inl ⟨by rfl, ?hy12⟩) (by assumption) ?rest12
                    case hy12 => (intro w9 hSw; (try dsimp only at hSw); first | (go_simp; done) | (go_simp; with_reducible rfl))
                    try simp only [Act.put, List.setIfInBounds_toArray, List.set_cons_zero, List.set_cons_succ]
                    refine wpAnyH_ready (rs := [27]) (by kernel_rfl) (by simp) ?_
                    refine readyH (d := some 190) rfl rfl (fun K hK => ?_)
                    go_simp
                    go_at_call 18
                    refine (HEn.out _ U1.out).mono ?_
                    rintro e w' ⟨rfl, rfl⟩
                    go_wp2_with fail
                    refine hK.out _ _ U1.out (fun hHeld27 => ?_)
                    clear hK K
                    try simp only [Act.put, List.setIfInBounds_toArray, List.set_cons_zero, List.set_cons_succ]
                    refine takeH (i := 28) (d := some 191) (v := ?v13) rfl rfl (by kernel_rfl) (by kernel_rfl) (by kernel_rfl) (fun _ _ _ h => h) (Or.inl ⟨by rfl, ?hy13⟩) (by assumption) ?rest13
                    case hy13 => (intro w9 hSw; (try dsimp only at hSw); first | (go_simp; done) | (go_simp; with_reducible rfl))
                    try simp only [Act.put, List.setIfInBounds_toArray, List.set_cons_zero, List.set_cons_succ]
                    refine takeH (i := 29) (d := some 192) (v := ?v14) rfl rfl (by kernel_rfl) (by kernel_rfl) (by kernel_rfl) (fun _ _ _ h => h) (Or.inl ⟨by rfl, ?hy14⟩) (by assumption) ?rest14
                    case hy14 => (intro w9 hSw; (try dsimp only at hSw); first | (go_simp; done) | (go_simp; with_reducible rfl))
                    try simp only [Act.put, List.setIfInBounds_toArray, List.set_cons_zero, List.set_cons_succ]
                    refine takeH (i := 30) (d := some 193) (v := ?v15) rfl rfl (by kernel_rfl) (by kernel_rfl) (by kernel_rfl) (fun _ _ _ h => h) (Or.inl ⟨by rfl, ?hy15⟩) (by assumption) ?rest15
                    case hy15 => (intro w9 hSw; (try dsimp only at hSw); first | (go_simp; done) | (go_simp; with_reducible rfl))
                    try simp only [Act.put, List.setIfInBounds_toArray, List.set_cons_zero, List.set_cons_succ]
                    refine takeH (i := 31) (d := some 194) (v := ?v16) rfl rfl (by kernel_rfl) (by kernel_rfl) (by kernel_rfl) (fun _ _ _ h => h) (Or.inl ⟨by rfl, ?hy16⟩) (by assumption) ?rest16
                    case hy16 => (intro w9 hSw; (try dsimp only at hSw); first | (go_simp; done) | (go_simp; with_reducible rfl))
                    try simp only [Act.put, List.setIfInBounds_toArray, List.set_cons_zero, List.set_cons_succ]
                    refine wpAnyH_done (by kernel_rfl) ?_ _
                    have HWE := Lib.hid (HW5.out.below U1.out)
                    have HME := Lib.hid (HM5.out.below U1.out)
                    go_wp2
                    go_roundg (n1 - (j + 1))
                    case measure => have h1 := HGK.out; have h2 := HJN.out; omega
                    case rel => exact ⟨j + 1, k', m2, o5, s5, rfl, rfl, by go_num, by have := HJN.out; omega, rfl, HRN, HWE, HME⟩
                  · have HKE : Hid (k' = T.length ∧ E = 0) := Lib.hid (of_decide_eq_true HDB.out.symm)
                    have HXE : Hid (xe = (En : Int)) := Lib.hid (HX.out HKE.out.2)
                    have HSt : Hid (∀ u, Below wc.heap.size wc u → Calls Tryz.prog 17 #[.pointer (some ⟨m2, 0, none⟩)] u fun e w' => ∃ v', e = .returned v' ∧ strt u.heap.size w' v' L ∧ Below u.heap.size u w') := Lib.hid (fun u hu => starts_yes HR.out (HW5.out.below hu).u ((HW5.out.below hu).u.v.fewL HLM.out) HDB2.out)
                    have HEn : Hid (∀ u, Below wc.heap.size wc u → Calls Tryz.prog 18 #[.pointer (some ⟨m2, 0, none⟩)] u fun e w' => e = .returned (.int .i64 xe) ∧ u = w') := Lib.hid (fun u hu => by rw [HXE.out]; exact end_yes HR.out (HW5.out.below hu).u HDB2.out)
                    have y1 : wc.cell? ⟨Y, 1, none⟩ = some (.slice An nn cn) := HM5.out.y.cell 1
                    have y2 : wc.cell? ⟨Y, 2, none⟩ = some (.int .i64 xe) := HM5.out.y.cell 2
                    refine wp_region_held_drew (S := fun u => u.cell? ⟨Y, 1, none⟩ = some (.slice An nn cn) ∧ u.cell? ⟨Y, 2, none⟩ = some (.int .i64 xe)) (by kernel_rfl) ⟨y1, y2⟩ (fun hHeld => ?_)
                    refine takeH (i := 0) (d := some 163) (v := ?v17) rfl rfl (by kernel_rfl) (by kernel_rfl) (by kernel_rfl) (fun _ _ _ h => h) (Or.inl ⟨by rfl, ?hy17⟩) (by assumption) ?rest17
                    case hy17 => (intro w9 hSw; (try dsimp only at hSw); first | (go_simp; done) | (go_simp; with_reducible rfl))
                    try simp only [Act.put, List.setIfInBounds_toArray, List.set_cons_zero, List.set_cons_succ]
                    refine takeH (i := 1) (d := some 164) (v := ?v18) rfl rfl (by kernel_rfl) (by kernel_rfl) (by kernel_rfl) (fun _ _ _ h => h) (Or.inl ⟨by rfl, ?hy18⟩) (by assumption) ?rest18
                    case hy18 => (intro w9 hSw; (try dsimp only at hSw); first | (go_simp; done) | (go_simp; with_reducible rfl))
                    try simp only [Act.put, List.setIfInBounds_toArray, List.set_cons_zero, List.set_cons_succ]
                    refine takeH (i := 2) (d := some 165) (v := ?v19) rfl rfl (by kernel_rfl) (by kernel_rfl) (by kernel_rfl) (fun _ _ _ h => h) (Or.inl ⟨by rfl, ?hy19⟩) (by assumption) ?rest19
                    case hy19 => (intro w9 hSw; (try dsimp only at hSw); first | (go_simp; done) | (go_simp; with_reducible rfl))
                    try simp only [Act.put, List.setIfInBounds_toArray, List.set_cons_zero, List.set_cons_succ]
                    refine takeH (i := 5) (d := some 168) (v := ?v20) rfl rfl (by kernel_rfl) (by kernel_rfl) (by kernel_rfl) (fun _ _ _ h => h) (Or.inl ⟨by rfl, ?hy20⟩) (by assumption) ?rest20
                    case hy20 => (intro w9 hSw; (try dsimp only at hSw); first | (go_simp; done) | (go_simp; with_reducible rfl))
                    try simp only [Act.put, List.setIfInBounds_toArray, List.set_cons_zero, List.set_cons_succ]
                    refine takeH (i := 6) (d := some 169) (v := ?v21) rfl rfl (by kernel_rfl) (by kernel_rfl) (by kernel_rfl) (fun _ _ _ h => h) (Or.inl ⟨by rfl, ?hy21⟩) (by assumption) ?rest21
                    case hy21 => (intro w9 hSw; (try dsimp only at hSw); first | (go_simp; done) | (go_simp; with_reducible rfl))
                    try simp only [Act.put, List.setIfInBounds_toArray, List.set_cons_zero, List.set_cons_succ]
                    refine wpAnyH_ready (rs := [3]) (by kernel_rfl) (by simp) ?_
                    refine readyH (d := some 166) rfl rfl (fun K hK => ?_)
                    go_simp
                    go_at_call 17
                    refine (HSt.out _ BD.out).mono ?_
                    rintro e u1 ⟨v1, rfl, hv1, hb1⟩
                    have U1 := Lib.hid (grows BD.out hb1)
                    have V1 := Lib.hid hv1
                    have hy1 := HM5.out.y.below U1.out
                    have P1 : Hid (u1.cell? ⟨Y, 1, none⟩ = some (.slice An nn cn) ∧ u1.cell? ⟨Y, 2, none⟩ = some (.int .i64 xe)) := Lib.hid ⟨hy1.cell 1, hy1.cell 2⟩
                    obtain ⟨A9, cap9, hv9, _⟩ := hv1.form
                    clear hv1 hb1 hy1
                    subst hv9
                    go_wp2_with fail
                    refine hK.out _ _ P1.out (fun hHeld3 => ?_)
                    clear hK K
                    try simp only [Act.put, List.setIfInBounds_toArray, List.set_cons_zero, List.set_cons_succ]
                    refine wpAnyH_ready (rs := [4]) (by kernel_rfl) (by simp) ?_
                    refine readyH (d := some 167) rfl rfl (fun K hK => ?_)
                    go_simp
                    go_at_call 16
                    refine (starts_any V1.out HLM2.out.2).mono ?_
                    rintro e u2 ⟨v2, rfl, r2, b2⟩
                    have U2 := Lib.hid (grows U1.out b2)
                    have R9 := Lib.hid r2
                    have hy2 := HM5.out.y.below U2.out
                    have P2 : Hid (u2.cell? ⟨Y, 1, none⟩ = some (.slice An nn cn) ∧ u2.cell? ⟨Y, 2, none⟩ = some (.int .i64 xe)) := Lib.hid ⟨hy2.cell 1, hy2.cell 2⟩
                    obtain ⟨A8, cap8, hv8, _⟩ := r2.form
                    clear r2 b2 hy2
                    subst hv8
                    go_wp2_with fail
                    refine hK.out _ _ P2.out (fun hHeld4 => ?_)
                    clear hK K
                    try simp only [Act.put, List.setIfInBounds_toArray, List.set_cons_zero, List.set_cons_succ]
                    refine wpAnyH_ready (rs := [7]) (by kernel_rfl) (by simp) ?_
                    refine readyH (d := some 170) rfl rfl (fun K hK => ?_)
                    go_simp
                    go_at_call 15
                    refine (Starts_same R9.out (HM5.out.s.below U2.out) HLM2.out.2).mono ?_
                    rintro e u3 ⟨rfl, b3⟩
                    have U3 := Lib.hid (grows U2.out b3)
                    have hy3 := HM5.out.y.below U3.out
                    have P3 : Hid (u3.cell? ⟨Y, 1, none⟩ = some (.slice An nn cn) ∧ u3.cell? ⟨Y, 2, none⟩ = some (.int .i64 xe)) := Lib.hid ⟨hy3.cell 1, hy3.cell 2⟩
                    clear b3 hy3
                    go_wp2_with fail
                    refine hK.out _ _ P3.out (fun hHeld7 => ?_)
                    clear hK K
                    try simp only [Act.put, List.setIfInBounds_toArray, List.set_cons_zero, List.set_cons_succ]
                    refine takeH (i := 8) (d := some 171) (v := ?v22) rfl rfl (by kernel_rfl) (by kernel_rfl) (by kernel_rfl) (fun _ _ _ h => h) (Or.inl ⟨by rfl, ?hy22⟩) (by assumption) ?rest22
                    case hy22 => (intro w9 hSw; (try dsimp only at hSw); first | (go_simp; done) | (go_simp; with_reducible rfl))
                    try simp only [Act.put, List.setIfInBounds_toArray, List.set_cons_zero, List.set_cons_succ]
                    refine takeH (i := 9) (d := some 172) (v := ?v23) rfl rfl (by kernel_rfl) (by kernel_rfl) (by kernel_rfl) (fun _ _ _ h => h) (Or.inl ⟨by rfl, ?hy23⟩) (by assumption) ?rest23
                    case hy23 => (intro w9 hSw; (try dsimp only at hSw); first | (go_simp; done) | (go_simp; with_reducible rfl))
                    try simp only [Act.put, List.setIfInBounds_toArray, List.set_cons_zero, List.set_cons_succ]
                    refine takeH (i := 10) (d := some 173) (v := ?v24) rfl rfl (by kernel_rfl) (by kernel_rfl) (by kernel_rfl) (fun _ _ _ h => h) (Or.inl ⟨by rfl, ?hy24⟩) (by assumption) ?rest24
                    case hy24 => (intro w9 hSw; (try dsimp only at hSw); first | (go_simp; done) | (go_simp; with_reducible rfl))
                    try simp only [Act.put, List.setIfInBounds_toArray, List.set_cons_zero, List.set_cons_succ]
                    refine takeH (i := 12) (d := some 175) (v := ?v25) rfl rfl (by kernel_rfl) (by kernel_rfl) (by kernel_rfl) (fun _ _ _ h => h) (Or.inl ⟨by rfl, ?hy25⟩) (by assumption) ?rest25
                    case hy25 => (intro w9 hSw; (try dsimp only at hSw); first | (go_simp; done) | (go_simp; with_reducible rfl))
                    try simp only [Act.put, List.setIfInBounds_toArray, List.set_cons_zero, List.set_cons_succ]
                    refine takeH (i := 13) (d := some 176) (v := ?v26) rfl rfl (by kernel_rfl) (by kernel_rfl) (by kernel_rfl) (fun _ _ _ h => h) (Or.inl ⟨by rfl, ?hy26⟩) (by assumption) ?rest26
                    case hy26 => (intro w9 hSw; (try dsimp only at hSw); first | (go_simp; done) | (go_simp; with_reducible rfl))
                    try simp only [Act.put, List.setIfInBounds_toArray, List.set_cons_zero, List.set_cons_succ]
                    refine wpAnyH_ready (rs := [11]) (by kernel_rfl) (by simp) ?_
                    refine readyH (d := some 174) rfl rfl (fun K hK => ?_)
                    go_simp
                    go_at_call 18
                    refine (HEn.out _ U3.out).mono ?_
                    rintro e w' ⟨rfl, rfl⟩
                    go_wp2_with fail
                    refine hK.out _ _ P3.out (fun hHeld11 => ?_)
                    clear hK K
                    try simp only [Act.put, List.setIfInBounds_toArray, List.set_cons_zero, List.set_cons_succ]
                    refine takeH (i := 14) (d := some 177) (v := ?v27) rfl rfl (by kernel_rfl) (by kernel_rfl) (by kernel_rfl) (fun _ _ _ h => h) (Or.inl ⟨by rfl, ?hy27⟩) (by assumption) ?rest27
                    case hy27 => (intro w9 hSw; (try dsimp only at hSw); first | (go_simp; done) | (go_simp; with_reducible rfl))
                    try simp only [Act.put, List.setIfInBounds_toArray, List.set_cons_zero, List.set_cons_succ]
                    refine takeH (i := 15) (d := some 178) (v := ?v28) rfl rfl (by kernel_rfl) (by kernel_rfl) (by kernel_rfl) (fun _ _ _ h => h) (Or.inl ⟨by rfl, ?hy28⟩) (by assumption) ?rest28
                    case hy28 => (intro w9 hSw; (try dsimp only at hSw); first | (go_simp; done) | (go_simp; with_reducible rfl))
                    try simp only [Act.put, List.setIfInBounds_toArray, List.set_cons_zero, List.set_cons_succ]
                    refine takeH (i := 16) (d := some 179) (v := ?v29) rfl rfl (by kernel_rfl) (by kernel_rfl) (by kernel_rfl) (fun _ _ _ h => h) (Or.inl ⟨by rfl, ?hy29⟩) (by assumption) ?rest29
                    case hy29 => (intro w9 hSw; (try dsimp only at hSw); first | (go_simp; done) | (go_simp; with_reducible rfl))
                    try simp only [Act.put, List.setIfInBounds_toArray, List.set_cons_zero, List.set_cons_succ]
                    refine takeH (i := 17) (d := some 180) (v := ?v30) rfl rfl (by kernel_rfl) (by kernel_rfl) (by kernel_rfl) (fun _ _ _ h => h) (Or.inl ⟨by rfl, ?hy30⟩) (by assumption) ?rest30
                    case hy30 => (intro w9 hSw; (try dsimp only at hSw); first | (go_simp; done) | (go_simp; with_reducible rfl))
                    try simp only [Act.put, List.setIfInBounds_toArray, List.set_cons_zero, List.set_cons_succ]
                    refine takeH (i := 18) (d := some 181) (v := ?v31) rfl rfl (by kernel_rfl) (by kernel_rfl) (by kernel_rfl) (fun _ _ _ h => h) (Or.inl ⟨by rfl, ?hy31⟩) (by assumption) ?rest31
                    case hy31 => (intro w9 hSw; (try dsimp only at hSw); first | (go_simp; done) | (go_simp; with_reducible rfl))
                    try simp only [Act.put, List.setIfInBounds_toArray, List.set_cons_zero, List.set_cons_succ]
                    refine takeH (i := 19) (d := some 182) (v := ?v32) rfl rfl (by kernel_rfl) (by kernel_rfl) (by kernel_rfl) (fun _ _ _ h => h) (Or.inl ⟨by rfl, ?hy32⟩) (by assumption) ?rest32
                    case hy32 => (intro w9 hSw; (try dsimp only at hSw); first | (go_simp; done) | (go_simp; with_reducible rfl))
                    try simp only [Act.put, List.setIfInBounds_toArray, List.set_cons_zero, List.set_cons_succ]
                    refine takeH (i := 20) (d := some 183) (v := ?v33) rfl rfl (by kernel_rfl) (by kernel_rfl) (by kernel_rfl) (fun _ _ _ h => h) (Or.inl ⟨by rfl, ?hy33⟩) (by assumption) ?rest33
                    case hy33 => (intro w9 hSw; (try dsimp only at hSw); first | (go_simp; done) | (go_simp; with_reducible rfl))
                    try simp only [Act.put, List.setIfInBounds_toArray, List.set_cons_zero, List.set_cons_succ]
                    refine takeH (i := 21) (d := some 184) (v := undef) rfl rfl (by kernel_rfl) (by kernel_rfl) (by kernel_rfl) (fun _ _ _ h => h) (Or.inr ⟨by rfl, rfl⟩) (by assumption) ?_
                    try simp only [Act.put, List.setIfInBounds_toArray, List.set_cons_zero, List.set_cons_succ]
                    refine takeH (i := 22) (d := some 185) (v := undef) rfl rfl (by kernel_rfl) (by kernel_rfl) (by kernel_rfl) (fun _ _ _ h => h) (Or.inr ⟨by rfl, rfl⟩) (by assumption) ?_
                    try simp only [Act.put, List.setIfInBounds_toArray, List.set_cons_zero, List.set_cons_succ]
                    refine takeH (i := 23) (d := some 186) (v := undef) rfl rfl (by kernel_rfl) (by kernel_rfl) (by kernel_rfl) (fun _ _ _ h => h) (Or.inr ⟨by rfl, rfl⟩) (by assumption) ?_
                    try simp only [Act.put, List.setIfInBounds_toArray, List.set_cons_zero, List.set_cons_succ]
                    refine takeH (i := 24) (d := some 187) (v := undef) rfl rfl (by kernel_rfl) (by kernel_rfl) (by kernel_rfl) (fun _ _ _ h => h) (Or.inr ⟨by rfl, rfl⟩) (by assumption) ?_
                    try simp only [Act.put, List.setIfInBounds_toArray, List.set_cons_zero, List.set_cons_succ]
                    refine takeH (i := 25) (d := some 188) (v := undef) rfl rfl (by kernel_rfl) (by kernel_rfl) (by kernel_rfl) (fun _ _ _ h => h) (Or.inr ⟨by rfl, rfl⟩) (by assumption) ?_
                    try simp only [Act.put, List.setIfInBounds_toArray, List.set_cons_zero, List.set_cons_succ]
                    refine takeH (i := 26) (d := some 189) (v := undef) rfl rfl (by kernel_rfl) (by kernel_rfl) (by kernel_rfl) (fun _ _ _ h => h) (Or.inr ⟨by rfl, rfl⟩) (by assumption) ?_
                    try simp only [Act.put, List.setIfInBounds_toArray, List.set_cons_zero, List.set_cons_succ]
                    refine takeH (i := 27) (d := some 190) (v := undef) rfl rfl (by kernel_rfl) (by kernel_rfl) (by kernel_rfl) (fun _ _ _ h => h) (Or.inr ⟨by rfl, rfl⟩) (by assumption) ?_
                    try simp only [Act.put, List.setIfInBounds_toArray, List.set_cons_zero, List.set_cons_succ]
                    refine takeH (i := 28) (d := some 191) (v := undef) rfl rfl (by kernel_rfl) (by kernel_rfl) (by kernel_rfl) (fun _ _ _ h => h) (Or.inr ⟨by rfl, rfl⟩) (by assumption) ?_
                    try simp only [Act.put, List.setIfInBounds_toArray, List.set_cons_zero, List.set_cons_succ]
                    refine takeH (i := 29) (d := some 192) (v := undef) rfl rfl (by kernel_rfl) (by kernel_rfl) (by kernel_rfl) (fun _ _ _ h => h) (Or.inr ⟨by rfl, rfl⟩) (by assumption) ?_
                    try simp only [Act.put, List.setIfInBounds_toArray, List.set_cons_zero, List.set_cons_succ]
                    refine takeH (i := 30) (d := some 193) (v := ?v34) rfl rfl (by kernel_rfl) (by kernel_rfl) (by kernel_rfl) (fun _ _ _ h => h) (Or.inl ⟨by rfl, ?hy34⟩) (by assumption) ?rest34
                    case hy34 => (intro w9 hSw; (try dsimp only at hSw); first | (go_simp; done) | (go_simp; with_reducible rfl))
                    try simp only [Act.put, List.setIfInBounds_toArray, List.set_cons_zero, List.set_cons_succ]
                    refine takeH (i := 31) (d := some 194) (v := ?v35) rfl rfl (by kernel_rfl) (by kernel_rfl) (by kernel_rfl) (fun _ _ _ h => h) (Or.inl ⟨by rfl, ?hy35⟩) (by assumption) ?rest35
                    case hy35 => (intro w9 hSw; (try dsimp only at hSw); first | (go_simp; done) | (go_simp; with_reducible rfl))
                    try simp only [Act.put, List.setIfInBounds_toArray, List.set_cons_zero, List.set_cons_succ]
                    refine wpAnyH_done (by kernel_rfl) ?_ _
                    have HWE := Lib.hid (HW5.out.below U3.out)
                    have HME := Lib.hid (HM5.out.below U3.out)
                    go_wp2
                    go_roundg (n1 - (j + 1))
                    case measure => have h1 := HGK.out; have h2 := HJN.out; omega
                    case rel => exact ⟨j + 1, k', m2, o5, s5, rfl, rfl, by go_num, by have := HJN.out; omega, rfl, HRN, HWE, HME⟩
        · rcases (show (¬ (j : Int) < (n1 : Int)) ∨ ((j : Int) < (n1 : Int) ∧ ¬ (j : Int) < 40) by omega) with h | ⟨h, h'⟩
          all_goals
            go_wp2_with fail
            refine (HK.out _ (HO.out.below HW.out.b)).mono ?_
            rintro e w8 ⟨rfl, b8⟩
            go_wp2
            go_ret
            exact ⟨rfl, grows (grows B0.out HW.out.b) b8⟩
  · rw [decide_eq_false h1] at HS
    clear h1
    go_enter Tryz.func3, Tryz.ntmps3
    go_wp2_with fail
    rw [← hw0]
    rw [← hC]
    clear hw0 hC
    refine (HS.out _).mono ?_
    rintro e w' ⟨rfl, rfl⟩
    go_wp2_with fail
    refine (HK.out _ HO.out).mono ?_
    rintro e w2 ⟨rfl, b2⟩
    go_wp2
    go_ret
    exact ⟨rfl, grows B0.out b2⟩
end Go.Proofs.YtnkninjdpgpkmaaGreatDoor.inflatePlays
