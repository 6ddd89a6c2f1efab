/-
  The packer's writer and its codes in memory; wordOf, newCode, newCodes: their results.
  The packer's codes: newCodes; write: a symbol of a code is written, its word kept.
  The packer's ops of a text: common, backs, best and Ops: their results.
  Ops of pack, called with any text: the ops in a row of the call's own.
  A text in pieces: pieces, partOf and Split: their results.
  Conditions: as each theorem says.
-/
import Derived.Test.YtnkninjdpgpkmaaGreatDoorBav
import Derived.Test.YtnkninjdpgpkmaaGreatDoorBbj
import Derived.Test.YtnkninjdpgpkmaaGreatDoorBaz
import Derived.Deep.RegionHeld3
import Derived.StillTailTactics
import Derived.Test.YtnkninjdpgpkmaaGreatDoorBam
import Derived.Test.YtnkninjdpgpkmaaGreatDoorBaf
import Derived.BigQuiet
import Derived.Deep.QuietTactic
import Derived.Maps.AppendAt
import Derived.Test.YtnkninjdpgpkmaaGreatDoorBat
import Derived.Deep.LoopGhost
namespace Go.Proofs.YtnkninjdpgpkmaaGreatDoor.Gw
open Go.RowKit Go.Proofs.YtnkninjdpgpkmaaGreatDoor.Vm Go.Proofs.YtnkninjdpgpkmaaGreatDoor.Vo Go.Proofs.YtnkninjdpgpkmaaGreatDoor.Bm Go.Proofs.YtnkninjdpgpkmaaGreatDoor.Bt Go.Proofs.YtnkninjdpgpkmaaGreatDoor.Bw Go.Proofs.YtnkninjdpgpkmaaGreatDoor.Bp Go.Proofs.YtnkninjdpgpkmaaGreatDoor.Br Go.Proofs.YtnkninjdpgpkmaaGreatDoor.Bs Go.Proofs.YtnkninjdpgpkmaaGreatDoor.Bv Go.Proofs.YtnkninjdpgpkmaaGreatDoor.Bx Go.Proofs.YtnkninjdpgpkmaaGreatDoor.Na Go.Proofs.YtnkninjdpgpkmaaGreatDoor.Nf Go.Proofs.YtnkninjdpgpkmaaGreatDoor.Ni Go.Proofs.YtnkninjdpgpkmaaGreatDoor.Nm Go.Proofs.YtnkninjdpgpkmaaGreatDoor.Ne Go.Proofs.YtnkninjdpgpkmaaGreatDoor.Nh Go.Proofs.YtnkninjdpgpkmaaGreatDoor.Pm Go.Proofs.YtnkninjdpgpkmaaGreatDoor.Pw Go.Proofs.YtnkninjdpgpkmaaGreatDoor.Pi Go.Proofs.YtnkninjdpgpkmaaGreatDoor.Ko Go.Proofs.YtnkninjdpgpkmaaGreatDoor.Km Go.Proofs.YtnkninjdpgpkmaaGreatDoor.Kw Go.Proofs.YtnkninjdpgpkmaaGreatDoor.Ks Go.Proofs.YtnkninjdpgpkmaaGreatDoor.Kc Go.Proofs.YtnkninjdpgpkmaaGreatDoor.Kd Go.Proofs.YtnkninjdpgpkmaaGreatDoor.Ke Go.Proofs.YtnkninjdpgpkmaaGreatDoor.Kh Go.Proofs.YtnkninjdpgpkmaaGreatDoor.Kl Go.Proofs.YtnkninjdpgpkmaaGreatDoor.Ky Go.Proofs.YtnkninjdpgpkmaaGreatDoor.Sm Go.Proofs.YtnkninjdpgpkmaaGreatDoor.Gm Go.Proofs.YtnkninjdpgpkmaaGreatDoor.Ga Go.Proofs.YtnkninjdpgpkmaaGreatDoor.Gp Go.Proofs.YtnkninjdpgpkmaaGreatDoor.Gt

theorem wt_only {S : Nat → Prop} {base : Nat} {w w' : World} {g : Nat} {v : Value} {bs : List UInt8} {z : Nat} (h : wt base w g v bs z) (k : Only S w w') (hg : ¬ S g) (hv : ∀ i, v.ownBlock = some i → ¬ S i) : wt base w' g v bs z :=
  ⟨Blk.only h.b k hg, own_only h.o k hv, h.lt, h.len⟩
/-- The kinds of blocks that the packer writes, from B on. -/
def Kd (B : Nat) (w : World) (i : Nat) : Prop := B ≤ i ∧ ∃ t cs, Blk w i t cs ∧ (t = 139 ∨ t = 5 ∨ t = 202)
/-- Only such blocks have changed. -/
def stay (B : Nat) (w w' : World) : Prop := Only (Kd B w) w w'
section
variable {B : Nat} {a b c : World}
theorem stay.refl (B : Nat) (w : World) : stay B w w := Only.refl _ _
theorem stay.trans (h : stay B a b) (k : stay B b c) : stay B a c :=
  Only.then h k (fun i hi hlt => by
    by_cases hs : Kd B a i
    · exact hs
    · obtain ⟨hb, t, cs, hbl, ht⟩ := hi
      exact ⟨hb, t, cs, by unfold Blk at hbl ⊢; rw [← h.block i hlt hs]; exact hbl, ht⟩)
theorem stay.of_below (h : Below a.heap.size a b) : stay B a b := Only.of_below h
theorem stay.below {W : World} (h : stay B a b) (k : Below B W a) (hB : B ≤ a.heap.size) : Below B W b := Only.below h k hB (fun _ hi => hi.1)
theorem stay.blk (h : stay B a b) {i : Nat} {t : TypeId} {cs : Array Value} (k : Blk a i t cs) (ht : t ≠ 139 ∧ t ≠ 5 ∧ t ≠ 202) : Blk b i t cs :=
  k.only h (fun ⟨_, t', cs', hb, e⟩ => by
    unfold Blk at k hb
    rw [k] at hb
    injection hb with hb
    injection hb with _ hb _
    subst hb
    rcases e with e | e | e
    · exact ht.1 e
    · exact ht.2.1 e
    · exact ht.2.2 e)
/-- Blocks of a writer. -/
theorem stay_own {g z : Nat} {v : Value} {bs : List UInt8} (t : wt B a g v bs z) (hg : B ≤ g) (o : Only (own g v) a b) : stay B a b :=
  o.mono (fun i hi => by
    rcases hi with rfl | hi
    · exact ⟨hg, _, _, t.b, .inl rfl⟩
    · rcases t.o.2 with ⟨e, _⟩ | ⟨g', cap, cur, e, hb, hh, _⟩
      · rw [e] at hi; cases hi
      · rw [e] at hi
        obtain rfl : g' = i := by simpa [Value.ownBlock] using hi
        exact ⟨hb, _, _, hh, .inr (.inl rfl)⟩)
end

/-- A row of lengths that stays. -/
def rowS (B : Nat) (w : World) (A : Option Addr) (n : Nat) (f : Nat → Int) : Prop := row w A n f ∧ (n = 0 ∨ ∃ b off, A = some ⟨b, off, none⟩ ∧ (b < B ∨ ∃ cs, Blk w b 3 cs))
theorem rowS.stay {B : Nat} {w w' : World} {A : Option Addr} {n : Nat} {f : Nat → Int} (h : rowS B w A n f) (k : stay B w w') : rowS B w' A n f := by
  obtain ⟨hr, h0 | ⟨b, off, rfl, hb⟩⟩ := h
  · exact ⟨fun i hi => absurd hi (by omega), .inl h0⟩
  · have hno : ¬ Kd B w b := fun ⟨hB, t, cs, hbl, ht⟩ => by
      rcases hb with hb | ⟨cs', hb⟩
      · omega
      · unfold Blk at hb hbl
        rw [hb] at hbl
        injection hbl with hbl
        injection hbl with _ hbl _
        subst hbl
        rcases ht with e | e | e <;> exact absurd e (by decide)
    refine ⟨fun i hi => ?_, ?_⟩
    · obtain ⟨b', off', e, hl, hc⟩ := hr i hi
      injection e with e
      injection e with e1 e2 _
      subst e1; subst e2
      refine ⟨b, off, rfl, Nat.lt_of_lt_of_le hl k.size, ?_⟩
      rw [← hc]
      simp only [World.cell?, k.block b hl hno]
    · by_cases hn : n = 0
      · exact .inl hn
      · obtain ⟨b', off', e, hl, hc⟩ := hr 0 (by omega)
        injection e with e
        injection e with e1 e2 _
        subst e1; subst e2
        exact .inr ⟨b, off, rfl, hb.imp id (fun ⟨cs, h⟩ => ⟨cs, h.only k hno⟩)⟩

/-- The packer's writer with l behind it. -/
structure wrl (B : Nat) (w : World) (g : Nat) (v : Value) (l : List (Nat × Nat)) : Prop where
  t : ∃ bs, wt B w g v bs (bl l) ∧ num bs = bn l
  g : B ≤ g
section
variable {B : Nat} {w w' : World} {g : Nat} {v : Value} {l : List (Nat × Nat)}
theorem wrl.only {S : Nat → Prop} (h : wrl B w g v l) (k : Only S w w') (hg : ¬ S g) (hv : ∀ i, v.ownBlock = some i → ¬ S i) : wrl B w' g v l := by
  obtain ⟨⟨bs, t, e⟩, h2⟩ := h
  exact ⟨⟨bs, wt_only t k hg hv, e⟩, h2⟩
theorem wrl.below (h : wrl B w g v l) (k : Below w.heap.size w w') : wrl B w' g v l := h.only (S := fun _ => False) (Only.of_below k) (fun e => e) (fun _ _ e => e)
theorem wrl.stay (h : wrl B w g v l) (o : Only (own g v) w w') : stay B w w' := by
  obtain ⟨⟨bs, t, e⟩, h2⟩ := h
  exact stay_own t h2 o
theorem wrl.size (h : wrl B w g v l) : B ≤ w.heap.size := by
  obtain ⟨⟨bs, t, e⟩, h2⟩ := h
  have := t.b.lt
  omega
/-- What a writer's call leaves. -/
theorem wrl.goes {w1 w2 : World} {v2 : Value} {l2 : List (Nat × Nat)} (h : wrl B w1 g v l) {bs : List UInt8} (e : num bs = bn l) (k : gone B w1 g v (num bs) (bl l) w2 v2 l2) : wrl B w2 g v2 (l ++ l2) ∧ Only (own g v) w1 w2 ∧ later w1 v v2 := by
  obtain ⟨bs', t', e'⟩ := k.t
  refine ⟨⟨⟨bs', by rw [bl_append]; exact t', ?_⟩, h.g⟩, k.o, k.a⟩
  rw [e', e, bn_append, Nat.mul_comm]
theorem wrl.put {y m : Nat} {x n : Int} (hx : x = (y : Int)) (hn : n = (m : Int)) (hy : y < 2 ^ m) (hm : m ≤ 32) (h : wrl B w g v l) (hz : bl l ≤ 562949953421312) :
    Calls Tryz.prog 113 #[.pointer (some ⟨g, 0, none⟩), .int .i64 x, .int .i64 n] w fun e w' => e = .returned (.int .i64 0) ∧ ∃ v', wrl B w' g v' (l ++ [(y, m)]) ∧ Only (own g v) w w' ∧ later w v v' := by
  obtain ⟨bs, t, e⟩ := h.t
  refine ((gone.start t h.size).put hx hn hy hm (by simpa [bl] using hz)).mono ?_
  rintro e' w' ⟨rfl, v', k⟩
  exact ⟨rfl, v', h.goes e k⟩
end

theorem sizeWd : (Tryz.prog.info? 202).map (·.size) = some 2 := by kernel_rfl
theorem sizeCs : (Tryz.prog.info? 103).map (·.size) = some 2 := by kernel_rfl
abbrev z2 : Array Value := #[.int .i64 0, .int .i64 0]
theorem one2 (a b : Int) : (#[.int .i64 a, .int .i64 b] : Array Value).all (·.oneCell') = true := by simp [Value.oneCell']
/-- A symbol's word. -/
def wdE (l : List Nat) (y : Nat) : Int := if nth l y = 0 then 1 else 0
def wdA (l : List Nat) (y : Nat) : Nat := if nth l y = 0 then 0 else (sy l y).1
theorem num_nil : num [] = 0 := rfl
set_option maxHeartbeats 1000000 in
set_option maxRecDepth 100000 in
theorem wordOf_any {A : Option Addr} {n cap : Nat} {f : Nat → Int} {w : World} (hr : row w A n f) (he : err n f = 0) {y : Nat} (hy : y < n) :
    Calls Tryz.prog 145 #[.slice A n cap, .int .i64 (y : Int)] w fun e w' => e = .returned (.tuple #[.agg #[.int .i64 (wdA (L n f) y : Int), .int .i64 (nth (L n f) y : Int)], .int .i64 (wdE (L n f) y)]) ∧ Below w.heap.size w w' := by
  obtain ⟨hn, h15, hks⟩ := err_zero he
  have hl15 : nth (L n f) y ≤ 15 := L_le h15 y
  have hcl := code_lt (l := L n f) (i := y) (by rw [L_length]; exact hy) hl15 hks
  obtain ⟨w1, hw1⟩ : ∃ w1, w1 = w.alloc (.cells #[.int .i64 0, .int .i64 0] 202) := ⟨_, rfl⟩
  have B1 : Hid (Below w.heap.size w w1) := Lib.hid (by rw [hw1]; exact below_alloc _ _)
  have K1 : Hid (Blk w1 w.heap.size 202 z2) := Lib.hid (by rw [hw1]; exact Blk.fresh _ _ _)
  have HR := Lib.hid hr
  have HY : Hid (nth (L n f) y = 0 → wrE n f (y : Int) = 1) := Lib.hid (fun h => by unfold wrE; rw [if_neg (by omega), if_pos (.inr (.inr (by rw [Int.toNat_natCast]; exact h)))])
  have HY2 : Hid (nth (L n f) y ≠ 0 → wrE n f (y : Int) = 0) := Lib.hid (fun h => by unfold wrE; rw [if_neg (by omega), if_neg (by rw [Int.toNat_natCast]; omega)])
  have HWR : Hid (∀ u g, wt u.heap.size u g (.slice none 0 0) [] 0 ∨ True) := Lib.hid (fun _ _ => .inr trivial)
  have HLY : Hid (wrZ n f (y : Int) 0 = (if wrE n f (y : Int) = 0 then nth (L n f) y else 0) ∧ wrN n f (y : Int) 0 0 = (if wrE n f (y : Int) = 0 then turnN (code (L n f) y) (nth (L n f) y) else 0)) := Lib.hid (by
    unfold wrZ wrN
    by_cases h : wrE n f (y : Int) = 0
    · rw [if_pos h, if_pos h, if_pos h, if_pos h, Int.toNat_natCast]; simp
    · rw [if_neg h, if_neg h, if_neg h, if_neg h]; exact ⟨rfl, rfl⟩)
  have H15 := Lib.hid hl15
  have HN320 := Lib.hid hn
  obtain ⟨l, hl⟩ : ∃ l, l = L n f := ⟨_, rfl⟩
  rw [← hl] at HY HY2 HLY H15 ⊢
  clear hr he hn h15 hks hcl hl15 hl HWR
  go_enter Tryz.func145, Tryz.ntmps145
  go_wp2_with fail
  rw [← hw1]
  refine (Open_any w1).mono ?_
  rintro e w2 ⟨g, rfl, t2, hg, b2⟩
  have T2 := Lib.hid t2
  have HG := Lib.hid hg
  have B2 := Lib.hid (grows B1.out b2)
  have K2 := Lib.hid (K1.out.below b2)
  have HGW : Hid (w.heap.size < g) := Lib.hid (by rw [hg]; exact K1.out.lt)
  have HC : Hid (∀ u, Only (own g (.slice none 0 0)) w2 u → row u A n f) := Lib.hid (fun u o => HR.out.below (o.below B2.out B2.out.size (fun i hi => by
    rcases hi with hi | hi
    · have := HGW.out; omega
    · cases hi)))
  have HWC := Lib.hid (Write_gen (cap := cap) w1.heap.size (y : Int) (by have := HN320.out; omega) HC b2.size T2 (by omega))
  clear t2 hg b2 hw1
  go_wp2_with fail
  refine HWC.out.mono ?_
  rintro e w3 ⟨rfl, v3, l3, t3, n3, o3, a3⟩
  have T3 := Lib.hid t3
  have N3 := Lib.hid n3
  have B3 : Hid (Below w.heap.size w w3) := Lib.hid (o3.below B2.out B2.out.size (fun i hi => by
    rcases hi with hi | hi
    · have := HGW.out; omega
    · cases hi))
  have K3 : Hid (Blk w3 w.heap.size 202 z2) := Lib.hid (K2.out.only o3 (fun e => by
    rcases e with e | e
    · have := HGW.out; omega
    · cases e))
  clear t3 n3 o3 a3 HWC
  have OS : ∀ (u : World) (cs : Array Value), Below w.heap.size w u → Below w.heap.size w (u.setRow w.heap.size cs) := fun u cs hu => (only_row (S := fun i => i = w.heap.size) (Only.refl _ u) rfl cs).below hu hu.size (fun i hi => by rw [hi]; exact Nat.le_refl _)
  have HOS := Lib.hid OS
  clear OS
  by_cases h0 : nth l y = 0
  · have HW1 := HY.out h0
    have HA : Hid ((wdA l y : Int) = 0 ∧ (nth l y : Int) = 0 ∧ wdE l y = 1) := Lib.hid ⟨by unfold wdA; rw [if_pos h0]; rfl, by rw [h0]; rfl, by unfold wdE; rw [if_pos h0]⟩
    rw [HW1]
    clear h0 HW1
    go_wp2_with (refine wpList_store_row rfl 202 _ _ rfl w.heap.size z2 rfl rfl _ _ K3.out sizeWd rfl (one2 _ _) ?_)
    refine bodyPost_ret (v := .tuple #[.agg z2, .int .i64 1]) (results_cell2 rfl _ _ w.heap.size 202 z2 _ _ rfl rfl (setRow_heap _ _ _ _ _ _ K3.out) Tryz.underlying202 rfl sizeWd) rfl ?_
    exact ⟨by rw [HA.out.1, HA.out.2.1, HA.out.2.2], HOS.out _ _ B3.out⟩
  · have HW1 := HY2.out h0
    obtain ⟨m, hm⟩ : ∃ m, m = nth l y := ⟨_, rfl⟩
    have hz : wrZ n f (y : Int) 0 = m := by rw [HLY.out.1, if_pos HW1, hm]
    have hN : num l3 = (sy l y).1 := by rw [N3.out, num_nil, HLY.out.2, if_pos HW1]; rfl
    have T4 := T3.out
    rw [hz] at T4
    have HT4 := Lib.hid T4
    obtain ⟨S, hS⟩ : ∃ S : ByteArray, S = ⟨l3.toArray⟩ := ⟨_, rfl⟩
    have HSL : Hid (S.data.toList = l3) := Lib.hid (by rw [hS])
    have HSS : Hid (S.size = (m + 7) / 8) := Lib.hid (by rw [hS]; show Array.size _ = _; rw [List.size_toArray]; exact T4.len)
    have HA : Hid ((wdA l y : Int) = ((sy l y).1 : Int) ∧ wdE l y = 0) := Lib.hid ⟨by unfold wdA; rw [if_neg h0], by unfold wdE; rw [if_neg h0]⟩
    have hm15 : m ≤ 15 := by rw [hm]; exact H15.out
    have HTX : Hid (∀ u, Below w3.heap.size w3 u → Calls Tryz.prog 50 #[.pointer (some ⟨g, 0, none⟩)] u fun e w' => e = .returned (.string S) ∧ u = w') := Lib.hid (fun u hu => by rw [hS]; exact Text_any (wt_below T4 hu))
    have HLN : Hid (∀ u, Below w3.heap.size w3 u → Calls Tryz.prog 175 #[.pointer (some ⟨g, 0, none⟩)] u fun e w' => e = .returned (.int .i64 (m : Int)) ∧ u = w') := Lib.hid (fun u hu => Len_any (wt_below T4 hu).b)
    have HPK : Hid (peekN (num S.data.toList) 0 m = (sy l y).1) := Lib.hid (by
      rw [HSL.out, hN]
      unfold peekN
      rw [Nat.pow_zero, Nat.div_one]
      exact Nat.mod_eq_of_lt (by have := sy_fits l y; rw [hm]; exact this))
    rw [HW1]
    have HM := Lib.hid hm
    have HM15 := Lib.hid hm15
    clear h0 HW1 hz hN T4 hS hm hm15
    go_wp2_with fail
    refine (HTX.out w3 (Below.refl _ _)).mono ?_
    rintro e w' ⟨rfl, rfl⟩
    go_wp2_with fail
    refine (New_ok S 0 w3 (by have := HSS.out; have := HM15.out; omega) (Nat.zero_le _)).mono ?_
    rintro e w4 ⟨r, rfl, r4, hr4, b4⟩
    have R4 := Lib.hid r4
    have HR4 := Lib.hid hr4
    have B4 := Lib.hid b4
    have K4 := Lib.hid (K3.out.below b4)
    clear r4 hr4 b4
    go_wp2_with fail
    refine (HLN.out w4 B4.out).mono ?_
    rintro e w' ⟨rfl, rfl⟩
    go_wp2_with fail
    refine (Bits_has (m := m) rfl (by have := HM15.out; omega) R4.out (by have := HSS.out; have := HM15.out; omega) (by have := HSS.out; omega)).mono ?_
    rintro e w5 ⟨rfl, r5, o5⟩
    rw [HPK.out]
    have B5 : Hid (Below w3.heap.size w3 w5) := Lib.hid (o5.below B4.out B4.out.size (fun i hi => by have : i = r := hi; have := HR4.out; omega))
    have K5 : Hid (Blk w5 w.heap.size 202 z2) := Lib.hid (K4.out.only o5 (fun e => by have : w.heap.size = r := e; have := HR4.out; have := K3.out.lt; omega))
    obtain ⟨q, hq⟩ : ∃ q : Int, q = ((sy l y).1 : Int) := ⟨_, rfl⟩
    rw [← hq]
    rw [← hq] at HA
    clear r5 o5 hq
    go_wp2_with fail
    refine (HLN.out w5 B5.out).mono ?_
    rintro e w' ⟨rfl, rfl⟩
    go_wp2_with (refine wpList_store_row rfl 202 _ _ rfl w.heap.size #[.int .i64 q, .int .i64 (m : Int)] rfl rfl _ _ K5.out sizeWd rfl (one2 _ _) ?_)
    refine bodyPost_ret (v := .tuple #[.agg #[.int .i64 q, .int .i64 (m : Int)], .int .i64 0]) (results_cell2 rfl _ _ w.heap.size 202 _ _ _ rfl rfl (setRow_heap _ _ _ _ _ _ K5.out) Tryz.underlying202 rfl sizeWd) rfl ?_
    exact ⟨by rw [HA.out.1, HA.out.2, ← HM.out], HOS.out _ _ (grows B3.out B5.out)⟩

theorem infoW2 : (Tryz.prog.info? 202).map (fun i => (i.zero, i.size, i.bytes)) = some (some (.agg #[.int .i64 0, .int .i64 0]), 2, 16) := by kernel_rfl
theorem made2 (n : Nat) (hn : n ≤ 1000000) (u : World) : (Instr.makeSlice 169 (.int .i64 (n : Int)) (.int .i64 (n : Int))).run Tryz.prog u = .ok (.slice (some ⟨u.heap.size, 0, none⟩) n n) (u.alloc (.cells (arr (n * 2) (fun _ => 0)) 202)) := by
  obtain ⟨i0, hi, hz0, hz1, hz2⟩ := info_parts infoW2
  have h := run_make (P := Tryz.prog) u 169 202 i0 (.agg #[.int .i64 0, .int .i64 0]) Tryz.underlying169 hi hz0 .i64 .i64 (n : Int) (n : Int) (by omega) (by omega) (by rw [hz2]; omega) (by omega)
  have e : madeCells (Value.agg #[.int .i64 0, .int .i64 0]).cells (n * i0.size) = arr (n * 2) (fun _ => 0) := by
    rw [hz1]
    apply Array.ext
    · simp [madeCells, arr]
    · intro j h1 h2
      simp [madeCells, arr, Value.cells]
      rcases Nat.mod_two_eq_zero_or_one j with e | e <;> simp [e]
  simp only [Int.toNat_natCast, e] at h
  exact h

/-- Codes in memory: the symbols' words so far. -/
structure cod (B : Nat) (w : World) (c ws : Nat) (l : List Nat) : Prop where
  b : ∃ A cap f, Blk w c 171 #[.slice A l.length cap, .slice (some ⟨ws, 0, none⟩) l.length l.length] ∧ rowS B w A l.length f ∧ L l.length f = l ∧ err l.length f = 0
  k : ∃ F, Blk w ws 202 (arr (l.length * 2) F) ∧ ∀ y, y < l.length → (F (y * 2) = 0 ∧ F (y * 2 + 1) = 0) ∨ (0 < nth l y ∧ F (y * 2) = ((sy l y).1 : Int) ∧ F (y * 2 + 1) = ((sy l y).2 : Int))
  lo : B ≤ ws
theorem cod.only {B : Nat} {w w' : World} {c ws : Nat} {l : List Nat} (h : cod B w c ws l) (s : stay B w w') {S : Nat → Prop} (o : Only S w w') (hs : ¬ S ws) : cod B w' c ws l := by
  obtain ⟨⟨A, cap, f, hb, hr, hL, he⟩, ⟨F, hk, hF⟩, lo⟩ := h
  exact ⟨⟨A, cap, f, s.blk hb ⟨by decide, by decide, by decide⟩, hr.stay s, hL, he⟩, ⟨F, hk.only o hs, hF⟩, lo⟩
theorem cod.below {B : Nat} {w w' : World} {c ws : Nat} {l : List Nat} (h : cod B w c ws l) (k : Below w.heap.size w w') : cod B w' c ws l := h.only (stay.of_below k) (S := fun _ => False) (Only.of_below k) (fun e => e)

set_option maxRecDepth 100000 in
theorem newCode_any {B : Nat} {A : Option Addr} {n cap : Nat} {f : Nat → Int} {w : World} (hr : rowS B w A n f) (he : err n f = 0) (hB : B ≤ w.heap.size) :
    Calls Tryz.prog 77 #[.slice A n cap] w fun e w' => ∃ c ws, e = .returned (.pointer (some ⟨c, 0, none⟩)) ∧ cod B w' c ws (L n f) ∧ w.heap.size ≤ c ∧ w.heap.size ≤ ws ∧ ws < w'.heap.size ∧ Below w.heap.size w w' := by
  have hn := (err_zero he).1
  have hmk := made2 n (by omega)
  have HR := Lib.hid hr
  have HE := Lib.hid he
  have HB := Lib.hid hB
  obtain ⟨w1, hw1⟩ : ∃ w1, w1 = w.alloc (.cells (arr (n * 2) (fun _ => 0)) 202) := ⟨_, rfl⟩
  have B1 : Hid (Below w.heap.size w w1) := Lib.hid (by rw [hw1]; exact below_alloc _ _)
  have K1 : Hid (Blk w1 w.heap.size 202 (arr (n * 2) (fun _ => 0))) := Lib.hid (by rw [hw1]; exact Blk.fresh _ _ _)
  have hmk' := hmk w
  rw [← hw1] at hmk'
  obtain ⟨ws, hws⟩ : ∃ ws, ws = w.heap.size := ⟨_, rfl⟩
  rw [← hws] at hmk' K1
  have HWS := Lib.hid hws
  clear hr he hB hn hmk hw1 hws
  go_enter Tryz.func77, Tryz.ntmps77
  go_wp2
  go_ret
  have B2 : Below w1.heap.size w1 (w1.alloc (.cells #[.slice A n cap, .slice (some ⟨ws, 0, none⟩) n n] 171)) := below_alloc _ _
  have hL : (L n f).length = n := L_length n f
  refine ⟨_, ws, rfl, ⟨⟨A, cap, f, ?_, ?_, by rw [hL], by rw [hL]; exact HE.out⟩, ⟨fun _ => 0, ?_, fun y _ => .inl ⟨rfl, rfl⟩⟩, by rw [HWS.out]; exact HB.out⟩, ?_, by rw [HWS.out]; exact Nat.le_refl _, ?_, grows B1.out B2⟩
  · rw [hL]; exact Blk.fresh _ _ _
  · rw [hL]; exact (HR.out.stay (stay.of_below B1.out)).stay (stay.of_below B2)
  · rw [hL]; exact K1.out.below B2
  · exact B1.out.size
  · exact (K1.out.below B2).lt
end Go.Proofs.YtnkninjdpgpkmaaGreatDoor.Gw
namespace Go.Proofs.YtnkninjdpgpkmaaGreatDoor.Gx
open Go.RowKit Go.Proofs.YtnkninjdpgpkmaaGreatDoor.Vm Go.Proofs.YtnkninjdpgpkmaaGreatDoor.Vo Go.Proofs.YtnkninjdpgpkmaaGreatDoor.Bm Go.Proofs.YtnkninjdpgpkmaaGreatDoor.Bw Go.Proofs.YtnkninjdpgpkmaaGreatDoor.Bv Go.Proofs.YtnkninjdpgpkmaaGreatDoor.Na Go.Proofs.YtnkninjdpgpkmaaGreatDoor.Ni Go.Proofs.YtnkninjdpgpkmaaGreatDoor.Nm Go.Proofs.YtnkninjdpgpkmaaGreatDoor.Ne Go.Proofs.YtnkninjdpgpkmaaGreatDoor.Pm Go.Proofs.YtnkninjdpgpkmaaGreatDoor.Ko Go.Proofs.YtnkninjdpgpkmaaGreatDoor.Km Go.Proofs.YtnkninjdpgpkmaaGreatDoor.Kw Go.Proofs.YtnkninjdpgpkmaaGreatDoor.Ks Go.Proofs.YtnkninjdpgpkmaaGreatDoor.Ke Go.Proofs.YtnkninjdpgpkmaaGreatDoor.Kh Go.Proofs.YtnkninjdpgpkmaaGreatDoor.Sm Go.Proofs.YtnkninjdpgpkmaaGreatDoor.Gm Go.Proofs.YtnkninjdpgpkmaaGreatDoor.Ga Go.Proofs.YtnkninjdpgpkmaaGreatDoor.Gp Go.Proofs.YtnkninjdpgpkmaaGreatDoor.Gt Go.Proofs.YtnkninjdpgpkmaaGreatDoor.Gw

theorem onep (a b : Option Addr) : (#[.pointer a, .pointer b] : Array Value).all (·.oneCell') = true := by simp [Value.oneCell']
set_option maxRecDepth 100000 in
theorem newCodes_any {B : Nat} {A1 A2 : Option Addr} {n1 c1 n2 c2 : Nat} {f1 f2 : Nat → Int} {w : World} (r1 : rowS B w A1 n1 f1) (h1 : err n1 f1 = 0) (r2 : rowS B w A2 n2 f2) (h2 : err n2 f2 = 0) (hB : B ≤ w.heap.size) :
    Calls Tryz.prog 46 #[.slice A1 n1 c1, .slice A2 n2 c2] w fun e w' => ∃ cl wl cd wd, e = .returned (.agg #[.pointer (some ⟨cl, 0, none⟩), .pointer (some ⟨cd, 0, none⟩)]) ∧ cod B w' cl wl (L n1 f1) ∧ cod B w' cd wd (L n2 f2) ∧ wl ≠ wd ∧ w.heap.size ≤ wl ∧ w.heap.size ≤ wd ∧ Below w.heap.size w w' := by
  obtain ⟨w1, hw1⟩ : ∃ w1, w1 = w.alloc (.cells #[.pointer none, .pointer none] 103) := ⟨_, rfl⟩
  have B1 : Hid (Below w.heap.size w w1) := Lib.hid (by rw [hw1]; exact below_alloc _ _)
  have K1 : Hid (Blk w1 w.heap.size 103 #[.pointer none, .pointer none]) := Lib.hid (by rw [hw1]; exact Blk.fresh _ _ _)
  have R1 := Lib.hid (r1.stay (stay.of_below B1.out))
  have R2 := Lib.hid (r2.stay (stay.of_below B1.out))
  have H1 := Lib.hid h1
  have H2 := Lib.hid h2
  have HB := Lib.hid hB
  clear r1 r2 h1 h2 hB
  go_enter Tryz.func46, Tryz.ntmps46
  go_wp2_with fail
  rw [← hw1]
  refine (newCode_any R1.out H1.out (Nat.le_trans HB.out B1.out.size)).mono ?_
  rintro e w2 ⟨cl, wl, rfl, g1, l1, l2, l3, b2⟩
  have G1 := Lib.hid g1
  have L1 : Hid (w.heap.size ≤ wl ∧ wl < w2.heap.size) := Lib.hid ⟨Nat.le_trans B1.out.size l2, l3⟩
  have B2 := Lib.hid (grows B1.out b2)
  have R22 := Lib.hid (R2.out.stay (stay.of_below b2))
  have K2 := Lib.hid (K1.out.below b2)
  clear g1 l1 l2 l3 b2 hw1
  go_wp2_with fail
  refine (newCode_any R22.out H2.out (Nat.le_trans HB.out B2.out.size)).mono ?_
  rintro e w3 ⟨cd, wd, rfl, g2, l1, l2, l3, b3⟩
  have G2 := Lib.hid g2
  have G13 := Lib.hid (G1.out.below b3)
  have L2 : Hid (w2.heap.size ≤ wd) := Lib.hid l2
  have B3 := Lib.hid (grows B2.out b3)
  have K3 := Lib.hid (K2.out.below b3)
  have HZ : Hid (w.heap.size < w2.heap.size) := Lib.hid K2.out.lt
  clear g2 l1 l2 l3 b3
  go_wp2_with (refine wpList_store_row rfl 103 _ _ rfl w.heap.size #[.pointer (some ⟨cl, 0, none⟩), .pointer (some ⟨cd, 0, none⟩)] rfl rfl _ _ K3.out sizeCs rfl (onep _ _) ?_)
  refine bodyPost_ret (v := .agg #[.pointer (some ⟨cl, 0, none⟩), .pointer (some ⟨cd, 0, none⟩)]) (results_cell_row rfl _ _ w.heap.size 103 _ _ _ rfl (setRow_heap _ _ _ _ _ _ K3.out) Tryz.underlying103 rfl sizeCs) rfl ?_
  obtain ⟨w4, hw4⟩ : ∃ w4, w4 = w3.setRow w.heap.size #[.pointer (some ⟨cl, 0, none⟩), .pointer (some ⟨cd, 0, none⟩)] := ⟨_, rfl⟩
  have o4 : Only (fun i => i = w.heap.size) w3 w4 := by rw [hw4]; exact only_row (S := fun i => i = w.heap.size) (Only.refl _ _) rfl _
  rw [← hw4]
  -- of the kinds that count nothing has changed
  have keep : ∀ {c ws : Nat} {l : List Nat}, cod B w3 c ws l → cod B w4 c ws l := by
    rintro c ws l ⟨⟨A, cap, f, hb, hr, hL, he⟩, ⟨F, hk, hF⟩, lo⟩
    have ne : ∀ {i : Nat} {t : TypeId} {cs : Array Value}, Blk w3 i t cs → t ≠ 103 → i ≠ w.heap.size := fun h ht => Blk.apart h K3.out ht
    refine ⟨⟨A, cap, f, hb.only o4 (ne hb (by decide)), ?_, hL, he⟩, ⟨F, hk.only o4 (ne hk (by decide)), hF⟩, lo⟩
    obtain ⟨hrr, h0 | ⟨b, off, rfl, hbb⟩⟩ := hr
    · exact ⟨fun i hi => absurd hi (by omega), .inl h0⟩
    · have hbne : b ≠ w.heap.size := by
        rcases hbb with hbb | ⟨cs, hbb⟩
        · have := HB.out; omega
        · exact ne hbb (by decide)
      refine ⟨fun i hi => ?_, .inr ⟨b, off, rfl, hbb.imp id (fun ⟨cs, h⟩ => ⟨cs, h.only o4 hbne⟩)⟩⟩
      obtain ⟨b', off', e, hl, hc⟩ := hrr i hi
      injection e with e
      injection e with e1 e2 _
      subst e1; subst e2
      refine ⟨b, off, rfl, Nat.lt_of_lt_of_le hl o4.size, ?_⟩
      rw [← hc]
      simp only [World.cell?, o4.block b hl hbne]
  exact ⟨cl, wl, cd, wd, rfl, keep G13.out, keep G2.out, by have := L1.out.2; have := L2.out; omega, L1.out.1, by have := L2.out; have := HZ.out; omega, o4.below B3.out B3.out.size (fun i hi => by rw [hi]; exact Nat.le_refl _)⟩

theorem later_le {a b : World} {v v' : Value} (h : later b v v') (k : a.heap.size ≤ b.heap.size) : later a v v' := by
  rcases h with h | ⟨i, hi, h⟩
  · exact .inl h
  · exact .inr ⟨i, Nat.le_trans k hi, h⟩
theorem own_not {B : Nat} {w : World} {g i : Nat} {v : Value} {l : List (Nat × Nat)} {t : TypeId} {cs : Array Value} (h : wrl B w g v l) (k : Blk w i t cs) (ht : 139 ≠ t ∧ 5 ≠ t) : ¬ own g v i := fun e => by
  obtain ⟨bs, tt, _⟩ := h.t
  rcases e with e | e
  · exact Blk.apart tt.b k ht.1 e.symm
  · exact own_apart tt.o k ht.2 i e rfl
theorem undr {S : Nat → Prop} {a b : World} (h : Only S a.drew b) : Only S a b := ⟨h.os, h.tape, h.output, h.size, h.block⟩
/-- What write leaves. -/
def wrote (B : Nat) (w : World) (c ws : Nat) (li : List Nat) (y : Nat) (g : Nat) (v : Value) (l : List (Nat × Nat)) (e : Ending) (w' : World) : Prop :=
  (¬ has li y ∧ e = .returned (.int .i64 1) ∧ stay B w w') ∨ (has li y ∧ e = .returned (.int .i64 0) ∧ ∃ v', wrl B w' g v' (l ++ [sy li y]) ∧ cod B w' c ws li ∧ Only (fun i => own g v i ∨ i = ws) w w' ∧ stay B w w' ∧ later w v v')
set_option maxHeartbeats 2000000 in
set_option maxRecDepth 100000 in
theorem write_any {B : Nat} {w : World} {c ws g : Nat} {v : Value} {l : List (Nat × Nat)} {li : List Nat} (hc : cod B w c ws li) (hw : wrl B w g v l) (hz : bl l ≤ 281474976710656) {y : Nat} (hy : y ≤ 1000000) :
    Calls Tryz.prog 119 #[.pointer (some ⟨c, 0, none⟩), .pointer (some ⟨g, 0, none⟩), .int .i64 (y : Int)] w (wrote B w c ws li y g v l) := by
  obtain ⟨⟨A, cap, f, hb, hr, hL, he⟩, ⟨F, hk, hF⟩, lo⟩ := hc
  obtain ⟨n, hn⟩ : ∃ n, n = li.length := ⟨_, rfl⟩
  rw [← hn] at hb hr hL he hk hF
  have c0 : w.cell? ⟨c, 0, none⟩ = some (.slice A n cap) := hb.cell 0
  have c1 : w.cell? ⟨c, 1, none⟩ = some (.slice (some ⟨ws, 0, none⟩) n n) := hb.cell 1
  have HBk := Lib.hid hb
  have HR := Lib.hid hr
  have HL := Lib.hid hL
  have HE := Lib.hid he
  have HK := Lib.hid hk
  have HF := Lib.hid hF
  have HLO := Lib.hid lo
  have HW := Lib.hid hw
  have HN := Lib.hid hn
  have hy0 : (0 : Int) ≤ (y : Int) := by omega
  have hn320 := (err_zero he).1
  have HZ := Lib.hid hz
  clear hb hr hL he hk hF lo hw hz
  by_cases hyn : y < n
  · have hyn' : ¬ (n : Int) ≤ (y : Int) := by omega
    have hyn2 : (y : Int) < (n : Int) := by omega
    have x0 : w.cell? ⟨ws, y * 2, none⟩ = some (.int .i64 (F (y * 2))) := (HK.out.cell _).trans (arr_get F (by omega))
    have x1 : w.cell? ⟨ws, y * 2 + 1, none⟩ = some (.int .i64 (F (y * 2 + 1))) := (HK.out.cell _).trans (arr_get F (by omega))
    have HYN := Lib.hid hyn
    by_cases h1 : F (y * 2 + 1) = 0
    · -- the word is not known yet
      rw [h1] at x1
      have HWD := Lib.hid (wordOf_any (cap := cap) HR.out.1 HE.out hyn)
      rw [HL.out] at HWD
      clear hn hyn h1 x0
      by_cases h0 : nth li y = 0
      · have hA : wdA li y = 0 := by unfold wdA; rw [if_pos h0]
        have hEE : wdE li y = 1 := by unfold wdE; rw [if_pos h0]
        rw [hA, hEE, h0] at HWD
        have H0 := Lib.hid h0
        clear hA hEE h0
        go_enter Tryz.func119, Tryz.ntmps119
        go_wp2_with fail
        refine HWD.out.mono ?_
        rintro e w2 ⟨rfl, b2⟩
        have B2 := Lib.hid b2
        clear b2
        go_wp2
        go_ret
        exact .inl ⟨fun h => by have := h.2; have := H0.out; omega, rfl, (stay.of_below B2.out).trans (stay.of_below (below_alloc _ _))⟩
      · have hEE : wdE li y = 0 := by unfold wdE; rw [if_neg h0]
        have hA : wdA li y = (sy li y).1 := by unfold wdA; rw [if_neg h0]
        rw [hEE, hA] at HWD
        obtain ⟨m, hm⟩ : ∃ m, m = nth li y := ⟨_, rfl⟩
        rw [← hm] at HWD
        obtain ⟨q, hq⟩ : ∃ q, q = (sy li y).1 := ⟨_, rfl⟩
        rw [← hq] at HWD
        have HM := Lib.hid hm
        have HQ := Lib.hid hq
        have H0 := Lib.hid h0
        clear hEE hA h0 hm hq
        go_enter Tryz.func119, Tryz.ntmps119
        go_wp2_with fail
        refine HWD.out.mono ?_
        rintro e w2 ⟨rfl, b2⟩
        have B2 := Lib.hid b2
        obtain ⟨w3, hw3⟩ : ∃ w3, w3 = w2.alloc (.cells #[.int .i64 (q : Int), .int .i64 (m : Int)] 202) := ⟨_, rfl⟩
        obtain ⟨Z, hZ⟩ : ∃ Z, Z = w2.heap.size := ⟨_, rfl⟩
        have B3 : Hid (Below w.heap.size w w3) := Lib.hid (grows b2 (by rw [hw3]; exact below_alloc _ _))
        have K3 : Hid (Blk w3 Z 202 #[.int .i64 (q : Int), .int .i64 (m : Int)]) := Lib.hid (by rw [hw3, hZ]; exact Blk.fresh _ _ _)
        have HZ3 : Hid (w.heap.size ≤ Z) := Lib.hid (by rw [hZ]; exact b2.size)
        have k0 : w3.cell? ⟨Z, 0, none⟩ = some (.int .i64 (q : Int)) := K3.out.cell 0
        have k1 : w3.cell? ⟨Z, 1, none⟩ = some (.int .i64 (m : Int)) := K3.out.cell 1
        have C3 : w3.cell? ⟨c, 1, none⟩ = some (.slice (some ⟨ws, 0, none⟩) n n) := (HBk.out.below B3.out).cell 1
        have W3 := Lib.hid (HK.out.below B3.out)
        have f0 : w3.frozen? ⟨ws, y * 2, none⟩ = false := W3.out.frozen _
        have f1 : w3.frozen? ⟨ws, y * 2 + 1, none⟩ = false := W3.out.frozen _
        have s0 : w3.cell? ⟨ws, y * 2, none⟩ = some (.int .i64 (F (y * 2))) := (W3.out.cell _).trans (arr_get F (by have := HYN.out; omega))
        have s1 : w3.cell? ⟨ws, y * 2 + 1, none⟩ = some (.int .i64 (F (y * 2 + 1))) := (W3.out.cell _).trans (arr_get F (by have := HYN.out; omega))
        clear b2
        go_wp2_with fail
        rw [← hw3, ← hZ]
        clear hw3 hZ x1 c0 c1
        obtain ⟨w4, hw4⟩ : ∃ w4, w4 = ((w3.setCell ⟨ws, y * 2, none⟩ (.int .i64 (q : Int))).setCell ⟨ws, y * 2 + 1, none⟩ (.int .i64 (m : Int))).drew := ⟨_, rfl⟩
        obtain ⟨F4, hF4⟩ : ∃ F4 : Nat → Int, F4 = fun i => if i = y * 2 + 1 then (m : Int) else if i = y * 2 then (q : Int) else F i := ⟨_, rfl⟩
        have O34 : Hid (Only (fun i => i = ws) w3 w4) := Lib.hid (by rw [hw4]; exact (((Only.refl (fun i => i = ws) w3).store (p := ⟨ws, y * 2, none⟩) (.inl rfl) _).store (p := ⟨ws, y * 2 + 1, none⟩) (.inl rfl) _).drew)
        have K4 : Hid (Blk w4 ws 202 (arr (n * 2) F4)) := Lib.hid (by
          rw [hw4, hF4]
          have h := ((W3.out.store (y * 2) (.int .i64 (q : Int))).store (y * 2 + 1) (.int .i64 (m : Int)))
          rw [arr_set, arr_set] at h
          exact h)
        have E0 : Hid (F4 (y * 2) = (q : Int)) := Lib.hid (by rw [hF4]; simp)
        have E1 : Hid (F4 (y * 2 + 1) = (m : Int)) := Lib.hid (by rw [hF4]; simp)
        have HM15 : Hid (m ≤ 15) := Lib.hid (by rw [HM.out, ← HL.out]; exact L_le (err_zero HE.out).2.1 y)
        have S34 : stay B w3 w4 := O34.out.mono (fun i hi => by rw [hi]; exact ⟨HLO.out, _, _, W3.out, .inr (.inr rfl)⟩)
        have CB4 : Hid (Blk w4 c 171 #[.slice A n cap, .slice (some ⟨ws, 0, none⟩) n n]) := Lib.hid (S34.blk (HBk.out.below B3.out) ⟨by decide, by decide, by decide⟩)
        have S4 : Hid (stay B w w4) := Lib.hid ((stay.of_below B3.out).trans S34)
        have W4 : Hid (wrl B w4 g v l) := Lib.hid ((HW.out.below B3.out).only O34.out (fun e => own_not (HW.out.below B3.out) W3.out ⟨by decide, by decide⟩ (.inl e.symm)) (fun i hi e => own_not (HW.out.below B3.out) W3.out ⟨by decide, by decide⟩ (by rw [← e]; exact .inr hi)))
        have O4 : Hid (Only (fun i => own g v i ∨ i = ws) w w4) := Lib.hid ((Only.of_below B3.out).trans (O34.out.mono (fun i hi => .inr hi)))
        have C4 : Hid (cod B w4 c ws li) := Lib.hid (by
          refine ⟨⟨A, cap, f, ?_, ?_, ?_, ?_⟩, ⟨F4, ?_, fun z hz => ?_⟩, HLO.out⟩
          · rw [← HN.out]; exact CB4.out
          · rw [← HN.out]; exact HR.out.stay S4.out
          · rw [← HN.out]; exact HL.out
          · rw [← HN.out]; exact HE.out
          · rw [← HN.out]; exact K4.out
          · by_cases hzy : z = y
            · subst hzy
              exact .inr ⟨by have := H0.out; omega, E0.out.trans (by rw [HQ.out]), E1.out.trans (by rw [HM.out]; rfl)⟩
            · have hh := HF.out z (by rw [HN.out]; exact hz)
              have e1 : F4 (z * 2) = F (z * 2) := by rw [hF4]; show (if _ then _ else if _ then _ else _) = _; rw [if_neg (by omega), if_neg (by omega)]
              have e2 : F4 (z * 2 + 1) = F (z * 2 + 1) := by rw [hF4]; show (if _ then _ else if _ then _ else _) = _; rw [if_neg (by omega), if_neg (by omega)]
              rw [e1, e2]; exact hh)
        go_region
        rw [← hw4]
        clear hw4 hF4 S34 k0 k1 C3 f0 f1 s0 s1
        go_wp2_with fail
        have hq32 : q < 2 ^ m := by rw [HQ.out, HM.out]; exact sy_fits li y
        have HPUT := Lib.hid ((wrl.below W4.out (Below.refl _ w4).drew).put (y := q) (m := m) rfl rfl hq32 (by have := HM15.out; omega) (by have := HZ.out; omega))
        have d0 : w4.cell? ⟨c, 1, none⟩ = some (.slice (some ⟨ws, 0, none⟩) n n) := CB4.out.cell 1
        have d1 : w4.cell? ⟨ws, y * 2, none⟩ = some (.int .i64 (q : Int)) := (K4.out.cell _).trans ((arr_get F4 (by have := HYN.out; omega)).trans (by rw [E0.out]))
        have d2 : w4.cell? ⟨ws, y * 2 + 1, none⟩ = some (.int .i64 (m : Int)) := (K4.out.cell _).trans ((arr_get F4 (by have := HYN.out; omega)).trans (by rw [E1.out]))
        have HNW : Hid (¬ own g v ws ∧ ¬ own g v c) := Lib.hid ⟨own_not W4.out K4.out ⟨by decide, by decide⟩, own_not W4.out CB4.out ⟨by decide, by decide⟩⟩
        clear hq32
        go_region_held3 (fun u => u.cell? ⟨c, 1, none⟩ = some (.slice (some ⟨ws, 0, none⟩) n n) ∧ u.cell? ⟨ws, y * 2, none⟩ = some (.int .i64 (q : Int)) ∧ u.cell? ⟨ws, y * 2 + 1, none⟩ = some (.int .i64 (m : Int)))
          (first | exact ⟨d0, d1, d2⟩ | assumption)
          (first | (go_at_call 113; refine HPUT.out.mono ?_; rintro e w5 ⟨rfl, v5, h5, o5, a5⟩; have H5 := Lib.hid h5; have O5 := Lib.hid o5; have A5 := Lib.hid a5; have kw5 := (Blk.draws K4.out 1).only o5 HNW.out.1; have kc5 := (Blk.draws CB4.out 1).only o5 HNW.out.2; have p5 : w5.cell? ⟨c, 1, none⟩ = some (.slice (some ⟨ws, 0, none⟩) n n) ∧ w5.cell? ⟨ws, y * 2, none⟩ = some (.int .i64 (q : Int)) ∧ w5.cell? ⟨ws, y * 2 + 1, none⟩ = some (.int .i64 (m : Int)) := ⟨kc5.cell 1, (kw5.cell _).trans ((K4.out.cell _).symm.trans d1), (kw5.cell _).trans ((K4.out.cell _).symm.trans d2)⟩; clear h5 o5 a5 kw5 kc5))
        go_wp2
        go_ret
        have s5 : stay B w4 w5 := (stay.of_below (Below.refl _ w4).drew).trans ((wrl.below W4.out (Below.refl _ w4).drew).stay O5.out)
        refine .inr ⟨⟨by rw [← HN.out]; exact HYN.out, by have := H0.out; omega⟩, rfl, v5, ?_, ?_, ?_, S4.out.trans s5, later_le A5.out (by have := O4.out.size; exact this)⟩
        · have e : sy li y = (q, m) := Prod.ext HQ.out.symm HM.out.symm
          rw [e]; exact H5.out
        · exact (cod.below C4.out (Below.refl _ w4).drew).only ((wrl.below W4.out (Below.refl _ w4).drew).stay O5.out) O5.out HNW.out.1
        · exact O4.out.then (undr O5.out) (fun i hi _ => .inl hi)
    · -- the word is known
      obtain ⟨h0, hq, hm⟩ := (HF.out y hyn).resolve_left (fun e => h1 e.2)
      obtain ⟨m, hm'⟩ : ∃ m, m = nth li y := ⟨_, rfl⟩
      obtain ⟨q, hq'⟩ : ∃ q, q = (sy li y).1 := ⟨_, rfl⟩
      have hm2 : F (y * 2 + 1) = (m : Int) := by rw [hm, hm']; rfl
      have hq2 : F (y * 2) = (q : Int) := by rw [hq, hq']
      have hmb : ((m : Int) == 0) = false := by simp; omega
      rw [hm2] at x1
      rw [hq2] at x0
      have HM := Lib.hid hm'
      have HQ := Lib.hid hq'
      have H0 : Hid (nth li y ≠ 0) := Lib.hid (by omega)
      obtain ⟨F4, hF4⟩ : ∃ F4, F4 = F := ⟨_, rfl⟩
      have K4 : Hid (Blk w ws 202 (arr (n * 2) F4)) := Lib.hid (by rw [hF4]; exact HK.out)
      have E0 : Hid (F4 (y * 2) = (q : Int)) := Lib.hid (by rw [hF4]; exact hq2)
      have E1 : Hid (F4 (y * 2 + 1) = (m : Int)) := Lib.hid (by rw [hF4]; exact hm2)
      have HM15 : Hid (m ≤ 15) := Lib.hid (by rw [HM.out, ← HL.out]; exact L_le (err_zero HE.out).2.1 y)
      have CB4 := HBk
      have S4 : Hid (stay B w w) := Lib.hid (stay.refl _ _)
      have W4 := HW
      have O4 : Hid (Only (fun i => own g v i ∨ i = ws) w w) := Lib.hid (Only.refl _ _)
      have C4 : Hid (cod B w c ws li) := Lib.hid (by
        refine ⟨⟨A, cap, f, ?_, ?_, ?_, ?_⟩, ⟨F, ?_, fun z hz => ?_⟩, HLO.out⟩
        · rw [← HN.out]; exact HBk.out
        · rw [← HN.out]; exact HR.out
        · rw [← HN.out]; exact HL.out
        · rw [← HN.out]; exact HE.out
        · rw [← HN.out]; exact HK.out
        · exact HF.out z (by rw [HN.out]; exact hz))
      clear hn hyn h1 h0 hq hm hm' hq' hm2 hq2 hF4
      go_enter Tryz.func119, Tryz.ntmps119
      go_wp2_with fail
      have hq32 : q < 2 ^ m := by rw [HQ.out, HM.out]; exact sy_fits li y
      have HPUT := Lib.hid ((wrl.below W4.out (Below.refl _ w).drew).put (y := q) (m := m) rfl rfl hq32 (by have := HM15.out; omega) (by have := HZ.out; omega))
      have d0 : w.cell? ⟨c, 1, none⟩ = some (.slice (some ⟨ws, 0, none⟩) n n) := CB4.out.cell 1
      have d1 : w.cell? ⟨ws, y * 2, none⟩ = some (.int .i64 (q : Int)) := (K4.out.cell _).trans ((arr_get F4 (by have := HYN.out; omega)).trans (by rw [E0.out]))
      have d2 : w.cell? ⟨ws, y * 2 + 1, none⟩ = some (.int .i64 (m : Int)) := (K4.out.cell _).trans ((arr_get F4 (by have := HYN.out; omega)).trans (by rw [E1.out]))
      have HNW : Hid (¬ own g v ws ∧ ¬ own g v c) := Lib.hid ⟨own_not W4.out K4.out ⟨by decide, by decide⟩, own_not W4.out CB4.out ⟨by decide, by decide⟩⟩
      clear hq32
      go_region_held3 (fun u => u.cell? ⟨c, 1, none⟩ = some (.slice (some ⟨ws, 0, none⟩) n n) ∧ u.cell? ⟨ws, y * 2, none⟩ = some (.int .i64 (q : Int)) ∧ u.cell? ⟨ws, y * 2 + 1, none⟩ = some (.int .i64 (m : Int)))
        (first | exact ⟨d0, d1, d2⟩ | assumption)
        (first | (go_at_call 113; refine HPUT.out.mono ?_; rintro e w5 ⟨rfl, v5, h5, o5, a5⟩; have H5 := Lib.hid h5; have O5 := Lib.hid o5; have A5 := Lib.hid a5; have kw5 := (Blk.draws K4.out 1).only o5 HNW.out.1; have kc5 := (Blk.draws CB4.out 1).only o5 HNW.out.2; have p5 : w5.cell? ⟨c, 1, none⟩ = some (.slice (some ⟨ws, 0, none⟩) n n) ∧ w5.cell? ⟨ws, y * 2, none⟩ = some (.int .i64 (q : Int)) ∧ w5.cell? ⟨ws, y * 2 + 1, none⟩ = some (.int .i64 (m : Int)) := ⟨kc5.cell 1, (kw5.cell _).trans ((K4.out.cell _).symm.trans d1), (kw5.cell _).trans ((K4.out.cell _).symm.trans d2)⟩; clear h5 o5 a5 kw5 kc5))
      go_wp2
      go_ret
      have s5 : stay B w w5 := (stay.of_below (Below.refl _ w).drew).trans ((wrl.below W4.out (Below.refl _ w).drew).stay O5.out)
      refine .inr ⟨⟨by rw [← HN.out]; exact HYN.out, by have := H0.out; omega⟩, rfl, v5, ?_, ?_, ?_, S4.out.trans s5, later_le A5.out (by have := O4.out.size; exact this)⟩
      · have e : sy li y = (q, m) := Prod.ext HQ.out.symm HM.out.symm
        rw [e]; exact H5.out
      · exact (cod.below C4.out (Below.refl _ w).drew).only ((wrl.below W4.out (Below.refl _ w).drew).stay O5.out) O5.out HNW.out.1
      · exact O4.out.then (undr O5.out) (fun i hi _ => .inl hi)
  · have hyn' : (n : Int) ≤ (y : Int) := by omega
    have HH : Hid (¬ has li y) := Lib.hid (fun h => by have := h.1; omega)
    clear hn hyn
    go_enter Tryz.func119, Tryz.ntmps119
    go_wp2
    go_ret
    exact .inl ⟨HH.out, rfl, stay.refl _ _⟩
end Go.Proofs.YtnkninjdpgpkmaaGreatDoor.Gx
namespace Go.Proofs.YtnkninjdpgpkmaaGreatDoor.Ho
open Go.RowKit Go.Proofs.YtnkninjdpgpkmaaGreatDoor.Vm Go.Proofs.YtnkninjdpgpkmaaGreatDoor.Vo Go.Proofs.YtnkninjdpgpkmaaGreatDoor.Bm Go.Proofs.YtnkninjdpgpkmaaGreatDoor.Bw Go.Proofs.YtnkninjdpgpkmaaGreatDoor.Na Go.Proofs.YtnkninjdpgpkmaaGreatDoor.Ni Go.Proofs.YtnkninjdpgpkmaaGreatDoor.Nc Go.Proofs.YtnkninjdpgpkmaaGreatDoor.Nf Go.Proofs.YtnkninjdpgpkmaaGreatDoor.Ke Go.Proofs.YtnkninjdpgpkmaaGreatDoor.Gm Go.Proofs.YtnkninjdpgpkmaaGreatDoor.Gr Go.Proofs.YtnkninjdpgpkmaaGreatDoor.Gp Go.Proofs.YtnkninjdpgpkmaaGreatDoor.Hm Go.Proofs.YtnkninjdpgpkmaaGreatDoor.Gt Go.PlainAid

theorem sz (s : ByteArray) : s.data.toList.length = s.size := Array.length_toList
theorem bt_get (s : ByteArray) (i : Nat) (h : i < s.size) : s.data.toList[i]? = some (s[i]'h) := by
  rw [List.getElem?_eq_getElem (by rw [sz]; exact h)]; rfl
theorem bt_iff {s : ByteArray} {i j : Nat} (hi : i < s.size) (hj : j < s.size) : bt s i = bt s j ↔ s.data.toList[i]? = s.data.toList[j]? := by
  rw [bt_get s i hi, bt_get s j hj, ← get_bt s i hi, ← get_bt s j hj]
  constructor
  · intro h
    have h2 : (s[i]'hi).toNat = (s[j]'hj).toNat := by omega
    rw [UInt8.toNat_inj.1 h2]
  · intro h
    injection h with h
    rw [h]
theorem bt_at (s : ByteArray) {i : Nat} (h : i < s.size) : bt s i = ((s.data.toList.getD i 0).toNat : Int) ∧ s.data.toList[i]? = some (s.data.toList.getD i 0) := by
  have e : s.data.toList[i]? = some (s.data.toList.getD i 0) := by
    rw [List.getD_eq_getElem?_getD, List.getElem?_eq_getElem (by rw [sz]; exact h)]; rfl
  refine ⟨?_, e⟩
  have h2 := bt_get s i h
  rw [e] at h2
  injection h2 with h2
  rw [h2, get_bt s i h]

set_option maxHeartbeats 1000000 in
set_option maxRecDepth 100000 in
theorem common_any {s : ByteArray} {a d fr most : Nat} (hd : d ≤ a) (hfr : fr = a - d) (hm : most = min 258 (s.size - a)) (ha : a ≤ s.size) (hs : s.size ≤ 1000000000) (w : World) :
    Calls Tryz.prog 109 #[.string s, .int .i64 (fr : Int), .int .i64 (a : Int), .int .i64 (most : Int)] w fun e w' => e = .returned (.int .i64 (run s.data.toList a d : Nat)) ∧ Below w.heap.size w w' := by
  obtain ⟨R, hR⟩ : ∃ R, R = run s.data.toList a d := ⟨_, rfl⟩
  rw [← hR]
  have HR := Lib.hid hR
  have HFR := Lib.hid hfr
  have HM := Lib.hid hm
  have hml : most ≤ 258 ∧ a + most ≤ s.size := by omega
  have HD := Lib.hid hd
  clear hR hfr hm hd
  go_enter Tryz.func109, Tryz.ntmps109
  go_wp2
  go_loopw [9] (fun s9 wr => ∃ n : Nat, s9 = .int .i64 (n : Int) ∧ n ≤ most ∧ Hid (R = runF s.data.toList a d (258 - n) n) ∧ Hid (Below w.heap.size w wr)) (fun s9 _ => most - (intOf s9).toNat)
  case atStart => exact ⟨0, rfl, Nat.zero_le _, Lib.hid HR.out, Lib.hid (Below.refl _ _)⟩
  case round =>
    obtain ⟨n, rfl, hn, HN, HB⟩ := hrel
    by_cases hnm : n < most
    · obtain ⟨p, hp⟩ : ∃ p, p = fr + n := ⟨_, rfl⟩
      obtain ⟨q, hq⟩ : ∃ q, q = a + n := ⟨_, rfl⟩
      have hfa : fr ≤ a := by have := HFR.out; omega
      have e1 : IntKind.i64.wrap ((fr : Int) + (n : Int)) = (p : Int) := by rw [IntKind.wrap_i64]; omega
      have e2 : IntKind.i64.wrap ((a : Int) + (n : Int)) = (q : Int) := by rw [IntKind.wrap_i64]; omega
      have hnm' : (n : Int) < (most : Int) := by omega
      have p0 : (0 : Int) ≤ (p : Int) := by omega
      have q0 : (0 : Int) ≤ (q : Int) := by omega
      have p1 : (p : Int) < (s.size : Int) := by omega
      have q1 : (q : Int) < (s.size : Int) := by omega
      have hbe := bt_iff (s := s) (i := p) (j := q) (by omega) (by omega)
      have hb := get_bt s
      have HPQ : Hid (p = q - d ∧ q = a + n) := Lib.hid (by have := HFR.out; have := HD.out; omega)
      have HNM := Lib.hid hnm
      have HLA : Hid (a + n < s.data.toList.length) := Lib.hid (by rw [sz]; omega)
      have HML := Lib.hid hml
      clear hp hq hfa hnm
      by_cases hx : bt s p = bt s q
      · have hxb : (bt s p == bt s q) = true := by simp [hx]
        have HE := Lib.hid (hbe.1 hx)
        clear hx hbe
        go_wp2_with fail
        go_quiet (fail)
        clear e1 e2 hb hxb
        go_wp2
        go_roundw
        case rel =>
          refine ⟨n + 1, by go_num, by have := HNM.out; omega, Lib.hid ?_, Lib.hid (grows HB.out (below_draws _ _))⟩
          have h1 := HNM.out
          have h2 := HML.out
          rw [HN.out, show 258 - n = (258 - (n + 1)) + 1 by omega]
          exact runF_next ⟨HLA.out, by omega, by rw [← HPQ.out.2, ← HE.out, HPQ.out.1]⟩
        case measure => have := HNM.out; simp [intOf]; omega
      · have hxb : (bt s p == bt s q) = false := by simp [hx]
        have HE : Hid (¬ s.data.toList[p]? = s.data.toList[q]?) := Lib.hid (fun e => hx (hbe.2 e))
        clear hx hbe
        go_wp2_with fail
        go_quiet (fail)
        clear e1 e2 hb hxb
        go_wp2
        go_ret
        have e : R = n := by
          rw [HN.out]
          exact runF_stop (fun h => HE.out (by rw [HPQ.out.1, HPQ.out.2]; exact h.2.2.symm))
        exact ⟨by rw [e]; rfl, grows HB.out (below_draws _ _)⟩
    · have hnm' : ¬ (n : Int) < (most : Int) := by omega
      have hne : n = most := by omega
      have HE : Hid (R = n) := Lib.hid (by
        rw [HN.out]
        refine runF_stop (fun h => ?_)
        have h1 := HM.out
        have h2 := h.1
        rw [sz] at h2
        omega)
      have hnb : decide ((n : Int) < (most : Int)) = false := by simp; omega
      have hnbN : decide (n < most) = false := by simp; omega
      clear hnm hne
      go_wp2_with fail
      go_quiet (fail)
      go_wp2
      go_ret
      exact ⟨by rw [HE.out]; rfl, grows HB.out (below_draws _ _)⟩

/-- Cells of numbers of sixteen bits. -/
def arr16 (n : Nat) (f : Nat → Nat) : Array Value := Array.ofFn (n := n) fun i => .int .u16 (f i.val : Int)
theorem arr16_get {n : Nat} (f : Nat → Nat) {i : Nat} (h : i < n) : (arr16 n f)[i]? = some (.int .u16 (f i : Int)) := by simp [arr16, h]
theorem arr16_set (n : Nat) (f : Nat → Nat) (k v : Nat) : (arr16 n f).setIfInBounds k (.int .u16 (v : Int)) = arr16 n (fun i => if i = k then v else f i) := by
  apply Array.ext
  · simp [arr16]
  · intro i h1 h2
    have hi : i < (arr16 n f).size := by simpa using h1
    rw [Array.getElem_setIfInBounds hi]
    by_cases e : k = i
    · subst e; simp [arr16]
    · have e' : ¬ i = k := fun h => e h.symm
      simp [arr16, e, e']
theorem info16 : (Tryz.prog.info? 166).map (fun i => (i.zero, i.size, i.bytes)) = some (some (.int .u16 0), 1, 2) := by kernel_rfl
theorem made16 (n : Nat) (hn : n ≤ 1000000000) (u : World) : (Instr.makeSlice 132 (.int .i64 (n : Int)) (.int .i64 (n : Int))).run Tryz.prog u = .ok (.slice (some ⟨u.heap.size, 0, none⟩) n n) (u.alloc (.cells (arr16 n (fun _ => 0)) 166)) := by
  obtain ⟨i0, hi, hz0, hz1, hz2⟩ := info_parts info16
  have h := run_make (P := Tryz.prog) u 132 166 i0 (.int .u16 0) Tryz.underlying132 hi hz0 .i64 .i64 (n : Int) (n : Int) (by omega) (by omega) (by rw [hz2]; omega) (by omega)
  have e : madeCells (Value.int .u16 0).cells (n * i0.size) = arr16 n (fun _ => 0) := by
    rw [hz1]
    apply Array.ext
    · simp [madeCells, arr16]
    · intro j h1 h2
      simp [madeCells, arr16, Value.cells]
      simp [Nat.mod_one]
  simp only [Int.toNat_natCast, e] at h
  exact h
theorem info256 : (Tryz.prog.info? 165).map (fun i => (i.zero, i.size)) = some (some (.agg (Array.replicate 256 (.int .i64 0))), 256) := by kernel_rfl
/-- The row of distances in memory. -/
def bks (w : World) (b : Nat) (l : List UInt8) : Prop := ∃ F, Blk w b 166 (arr16 l.length F) ∧ ∀ j, j < l.length → isBk l j (F j)
theorem bks.below {w w' : World} {b : Nat} {l : List UInt8} (h : bks w b l) (k : Below w.heap.size w w') : bks w' b l := by
  obtain ⟨F, h1, h2⟩ := h
  exact ⟨F, h1.below k, h2⟩
set_option maxHeartbeats 2000000 in
set_option maxRecDepth 100000 in
theorem backs_any {s : ByteArray} (hs : s.size ≤ 1000000000) (w : World) :
    Calls Tryz.prog 72 #[.string s] w fun e w' => ∃ b, e = .returned (.slice (some ⟨b, 0, none⟩) s.size s.size) ∧ bks w' b s.data.toList ∧ Below w.heap.size w w' := by
  have hmk := made16 s.size hs
  obtain ⟨hz, hsz⟩ := zero_of_info info256
  rw [arr_zero] at hz
  obtain ⟨F0, hF0⟩ : ∃ F0, F0 = arr16 s.size (fun _ => 0) := ⟨_, rfl⟩
  obtain ⟨G0, hG0⟩ : ∃ G0, G0 = arr 256 (fun _ => 0) := ⟨_, rfl⟩
  rw [← hF0] at hmk
  rw [← hG0] at hz
  have HF0 := Lib.hid hF0
  have HG0 := Lib.hid hG0
  clear hF0 hG0 hsz
  go_enter Tryz.func72, Tryz.ntmps72
  go_wp2
  go_loopw [12] (fun s12 wr => ∃ (j : Nat) (F G : Nat → Nat), s12 = .int .i64 (j : Int) ∧ j ≤ s.size ∧ Hid (Blk wr w.heap.size 166 (arr16 s.size F)) ∧ Hid (Blk wr (w.heap.size + 1) 165 (arr 256 (fun i => (G i : Int)))) ∧ Hid (Below w.heap.size w wr) ∧ Hid ((∀ i, i < j → isBk s.data.toList i (F i)) ∧ (∀ i, j ≤ i → F i = 0) ∧ ∀ c : UInt8, isBe s.data.toList j c (G c.toNat))) (fun s12 _ => s.size - (intOf s12).toNat)
  case atStart =>
    have h2 := Blk.fresh (w.alloc (.cells F0 166)) 165 G0
    rw [size_alloc] at h2
    refine ⟨0, fun _ => 0, fun _ => 0, rfl, Nat.zero_le _, Lib.hid ?_, Lib.hid ?_, Lib.hid (grows (below_alloc _ _) (below_alloc _ _)), Lib.hid ⟨fun i h => absurd h (by omega), fun _ _ => rfl, fun c => isBe_zero _ c⟩⟩
    · rw [← HF0.out]; exact (Blk.fresh w _ _).below (below_alloc _ _)
    · have e : arr 256 (fun i => (((fun _ => 0 : Nat → Nat) i : Nat) : Int)) = G0 := by rw [HG0.out]; rfl
      rw [e]; exact h2
  case round =>
    obtain ⟨j, F, G, rfl, hj, HF, HG, HB, HI⟩ := hrel
    clear hz hmk
    by_cases hjn : j < s.size
    · have hjn' : (j : Int) < (s.size : Int) := by omega
      have hj0 : (0 : Int) ≤ (j : Int) := by omega
      obtain ⟨c, hc⟩ : ∃ c, c = s.data.toList.getD j 0 := ⟨_, rfl⟩
      have hbc := bt_at s hjn
      rw [← hc] at hbc
      obtain ⟨cn, hcn⟩ : ∃ cn, cn = c.toNat := ⟨_, rfl⟩
      have hbt : bt s j = (cn : Int) := by rw [hcn]; exact hbc.1
      have hc256 : cn < 256 := by rw [hcn]; exact c.toNat_lt
      obtain ⟨v, hv⟩ : ∃ v, v = G cn := ⟨_, rfl⟩
      have hbe := HI.out.2.2 c
      rw [← hcn, ← hv] at hbe
      have hvj := hbe.le
      obtain ⟨j1, hj1⟩ : ∃ j1, j1 = j + 1 := ⟨_, rfl⟩
      have e1 : IntKind.i64.wrap ((j : Int) + 1) = (j1 : Int) := by rw [IntKind.wrap_i64]; omega
      obtain ⟨dd, hdd⟩ : ∃ dd, dd = j1 - v := ⟨_, rfl⟩
      have e2 : IntKind.i64.wrap ((j1 : Int) - (v : Int)) = (dd : Int) := by rw [IntKind.wrap_i64]; omega
      have k1 : wr.cell? ⟨w.heap.size + 1, cn, none⟩ = some (.int .i64 (v : Int)) := (HG.out.cell cn).trans ((arr_get _ hc256).trans (by rw [hv]))
      have k0 : wr.cell? ⟨w.heap.size, j, none⟩ = some (.int .u16 (F j : Int)) := (HF.out.cell j).trans (arr16_get F hjn)
      have f0 : wr.frozen? ⟨w.heap.size, j, none⟩ = false := HF.out.frozen j
      have f1 : wr.frozen? ⟨w.heap.size + 1, cn, none⟩ = false := HG.out.frozen cn
      have hb := get_bt s
      have HJ := Lib.hid hjn
      have HJ1 := Lib.hid hj1
      have HDD := Lib.hid hdd
      have HV := Lib.hid hv
      have HCN := Lib.hid hcn
      have HBC := Lib.hid hbc.2
      have HBE := Lib.hid hbe
      have HBK := Lib.hid (isBk_of hbc.2 hbe)
      have HGS : ∀ u : World, Blk u (w.heap.size + 1) 165 (arr 256 (fun i => (G i : Int))) → Blk (u.setCell ⟨w.heap.size + 1, cn, none⟩ (.int .i64 (j1 : Int))) (w.heap.size + 1) 165 (arr 256 (fun i => ((if i = cn then j1 else G i : Nat) : Int))) := fun u h => by
        have h2 := h.store cn (.int .i64 (j1 : Int))
        rw [arr_set] at h2
        rw [arr_congr (g := fun i => ((if i = cn then j1 else G i : Nat) : Int)) (fun i _ => by split <;> rfl)] at h2
        exact h2
      have HGS := Lib.hid HGS
      have HIN : Hid (∀ c' : UInt8, isBe s.data.toList (j + 1) c' ((fun i => if i = cn then j1 else G i) c'.toNat)) := Lib.hid (fun c' => by
        dsimp only
        by_cases hcc : c'.toNat = cn
        · rw [if_pos hcc, HJ1.out]
          have : c' = c := UInt8.toNat_inj.1 (by rw [hcc, hcn])
          rw [this]; exact isBe_hit HBC.out
        · rw [if_neg hcc]
          refine isBe_miss (HI.out.2.2 c') (fun e => hcc ?_)
          rw [HBC.out] at e
          injection e with e
          rw [← e, hcn])
      clear hc hbc hcn hv hbe hj1 hdd hjn
      by_cases hA : 0 < v ∧ dd ≤ 256
      · have a1 : (0 : Int) < (v : Int) := by omega
        have a2 : (dd : Int) ≤ 256 := by omega
        have hcv : IntKind.u16.wrap (dd : Int) = (dd : Int) := by rw [IntKind.wrap_u16]; omega
        have k1' : (wr.setCell ⟨w.heap.size, j, none⟩ (.int .u16 (dd : Int))).cell? ⟨w.heap.size + 1, cn, none⟩ = some (.int .i64 (v : Int)) := ((HG.out.apartStore (by simp)).cell cn).trans ((arr_get _ hc256).trans (by rw [HV.out]))
        have f1' : (wr.setCell ⟨w.heap.size, j, none⟩ (.int .u16 (dd : Int))).frozen? ⟨w.heap.size + 1, cn, none⟩ = false := (HG.out.apartStore (by simp)).frozen cn
        have HF2 := Lib.hid (HF.out.store j (.int .u16 (dd : Int)))
        rw [arr16_set] at HF2
        have HAA := Lib.hid hA
        clear hA
        go_wp2
        go_roundw
        case rel =>
          refine ⟨j + 1, fun i => if i = j then dd else F i, fun i => if i = cn then j1 else G i, by rw [HJ1.out], by have := HJ.out; omega, Lib.hid (HF2.out.apartStore (by simp)), Lib.hid (HGS.out _ (HG.out.apartStore (by simp))), Lib.hid ((HB.out.setCell (by simp) _).setCell (by simp) _), Lib.hid ⟨fun i hi => ?_, fun i hi => ?_, HIN.out⟩⟩
          · dsimp only
            by_cases hij : i = j
            · subst hij
              rw [if_pos rfl]
              have h1 := HBK.out
              rw [← HJ1.out, ← HDD.out, if_pos HAA.out] at h1
              exact h1
            · rw [if_neg hij]; exact HI.out.1 i (by omega)
          · dsimp only
            rw [if_neg (by omega)]; exact HI.out.2.1 i (by omega)
        case measure => have h1 := HJ.out; have h2 := HJ1.out; simp [intOf]; omega
      · have HAA := Lib.hid hA
        have HFN : Hid ((∀ i, i < j + 1 → isBk s.data.toList i (F i)) ∧ ∀ i, j + 1 ≤ i → F i = 0) := Lib.hid ⟨fun i hi => by
          by_cases hij : i = j
          · subst hij
            have h1 := HBK.out
            rw [← HJ1.out, ← HDD.out, if_neg HAA.out] at h1
            rw [HI.out.2.1 i (Nat.le_refl _)]
            exact h1
          · exact HI.out.1 i (by omega), fun i hi => HI.out.2.1 i (by omega)⟩
        rcases (show (v = 0) ∨ (0 < v ∧ ¬ dd ≤ 256) by omega) with h0 | ⟨h0, h1⟩
        · have a1 : ¬ (0 : Int) < (v : Int) := by omega
          clear hA h0
          go_wp2
          go_roundw
          case rel => exact ⟨j + 1, F, fun i => if i = cn then j1 else G i, by rw [HJ1.out], by have := HJ.out; omega, Lib.hid (HF.out.apartStore (by simp)), Lib.hid (HGS.out _ HG.out), Lib.hid (HB.out.setCell (by simp) _), Lib.hid ⟨HFN.out.1, HFN.out.2, HIN.out⟩⟩
          case measure => have h1 := HJ.out; have h2 := HJ1.out; simp [intOf]; omega
        · have a1 : (0 : Int) < (v : Int) := by omega
          have a2 : ¬ (dd : Int) ≤ 256 := by omega
          clear hA h0 h1
          go_wp2
          go_roundw
          case rel => exact ⟨j + 1, F, fun i => if i = cn then j1 else G i, by rw [HJ1.out], by have := HJ.out; omega, Lib.hid (HF.out.apartStore (by simp)), Lib.hid (HGS.out _ HG.out), Lib.hid (HB.out.setCell (by simp) _), Lib.hid ⟨HFN.out.1, HFN.out.2, HIN.out⟩⟩
          case measure => have h1 := HJ.out; have h2 := HJ1.out; simp [intOf]; omega
    · have hjn' : ¬ (j : Int) < (s.size : Int) := by omega
      have hje : j = s.size := by omega
      have HJE := Lib.hid hje
      clear hjn hje
      go_wp2
      go_ret
      exact ⟨_, rfl, ⟨F, by rw [sz]; exact HF.out, fun i hi => HI.out.1 i (by rw [sz] at hi; rw [HJE.out]; exact hi)⟩, HB.out⟩

theorem sizeOp : (Tryz.prog.info? 89).map (·.size) = some 3 := by kernel_rfl
theorem one3 (x n d : Int) : (#[.int .u8 x, .int .i64 n, .int .i64 d] : Array Value).all (·.oneCell') = true := by simp [Value.oneCell']
/-- An op's cells. -/
def oc (o : Opx) : Array Value := #[.int .u8 (o.x.toNat : Int), .int .i64 (o.n : Int), .int .i64 (o.d : Int)]
theorem oc_eq {x n d : Int} {o : Opx} (h1 : x = (o.x.toNat : Int)) (h2 : n = (o.n : Int)) (h3 : d = (o.d : Int)) : (#[.int .u8 x, .int .i64 n, .int .i64 d] : Array Value) = oc o := by subst h1; subst h2; subst h3; rfl
theorem bo_next {l : List UInt8} {a d v : Nat} {x : UInt8} {nr : Nat} (hn : best l a (d + v) = if (best l a d).1 < nr then (nr, d + v) else best l a d) :
    bo x (best l a (d + v)) = if 3 ≤ nr ∧ (bo x (best l a d)).n < nr then ⟨0, nr, d + v⟩ else bo x (best l a d) := by
  rw [bo_n, hn]
  by_cases h : (best l a d).1 < nr
  · rw [if_pos h]
    by_cases h3 : 3 ≤ nr
    · rw [if_pos ⟨h3, by split <;> omega⟩]
      unfold bo; rw [if_pos h3]
    · rw [if_neg (fun e => h3 e.1)]
      unfold bo; rw [if_neg h3, if_neg (by omega)]
  · rw [if_neg h, if_neg (fun e => by
      have := e.2
      by_cases h4 : 3 ≤ (best l a d).1
      · rw [if_pos h4] at this; omega
      · omega)]
set_option maxHeartbeats 2000000 in
set_option maxRecDepth 100000 in
theorem best_any {s : ByteArray} {b a : Nat} {w : World} (hs : s.size ≤ 1000000000) (hb : bks w b s.data.toList) (ha : a < s.size) :
    Calls Tryz.prog 73 #[.string s, .slice (some ⟨b, 0, none⟩) s.size s.size, .int .i64 (a : Int)] w fun e w' => e = .returned (.agg (oc (bo (s.data.toList.getD a 0) (best s.data.toList a (min 256 a))))) ∧ Below w.heap.size w w' := by
  obtain ⟨l, hl⟩ : ∃ l, l = s.data.toList := ⟨_, rfl⟩
  have hsl : l.length = s.size := by rw [hl]; exact sz s
  rw [← hl] at hb ⊢
  obtain ⟨O, hO⟩ : ∃ O, O = bo (l.getD a 0) (best l a (min 256 a)) := ⟨_, rfl⟩
  rw [← hO]
  have HO := Lib.hid hO
  obtain ⟨c, hc⟩ : ∃ c, c = l.getD a 0 := ⟨_, rfl⟩
  obtain ⟨cn, hcn⟩ : ∃ cn : Int, cn = (c.toNat : Int) := ⟨_, rfl⟩
  have hbt : bt s a = cn := by rw [hcn, hc, hl]; exact (bt_at s ha).1
  have HC := Lib.hid hc
  have HCN := Lib.hid hcn
  have HL := Lib.hid hl
  have HSL := Lib.hid hsl
  obtain ⟨F, hF, hBK⟩ := hb
  have HF := Lib.hid hF
  have HBK := Lib.hid hBK
  obtain ⟨w2, hw2⟩ : ∃ w2, w2 = (w.alloc (.cells #[.int .u8 0, .int .i64 0, .int .i64 0] 89)).alloc (.cells #[.int .u8 cn, .int .i64 0, .int .i64 0] 89) := ⟨_, rfl⟩
  obtain ⟨Z, hZ⟩ : ∃ Z, Z = w.heap.size := ⟨_, rfl⟩
  have B2 : Hid (Below w.heap.size w w2) := Lib.hid (by rw [hw2]; exact grows (below_alloc _ _) (below_alloc _ _))
  have KR : Hid (Blk w2 Z 89 #[.int .u8 0, .int .i64 0, .int .i64 0]) := Lib.hid (by rw [hw2, hZ]; exact (Blk.fresh _ _ _).below (below_alloc _ _))
  have KF : Hid (Blk w2 (Z + 1) 89 #[.int .u8 cn, .int .i64 0, .int .i64 0]) := Lib.hid (by
    rw [hw2, hZ]
    have := Blk.fresh (w.alloc (.cells #[.int .u8 0, .int .i64 0, .int .i64 0] 89)) 89 #[.int .u8 cn, .int .i64 0, .int .i64 0]
    rw [size_alloc] at this
    exact this)
  have HZ : Hid (Z = w.heap.size) := Lib.hid hZ
  have ha' : (a : Int) < (s.size : Int) := by omega
  have ha0 : (0 : Int) ≤ (a : Int) := by omega
  obtain ⟨most, hm⟩ : ∃ most, most = min 258 (s.size - a) := ⟨_, rfl⟩
  obtain ⟨df, hdf⟩ : ∃ df, df = s.size - a := ⟨_, rfl⟩
  have hsub : IntKind.i64.wrap ((s.size : Int) - (a : Int)) = (df : Int) := by rw [IntKind.wrap_i64]; omega
  have hmin : min 258 (df : Int) = (most : Int) := by omega
  have HM := Lib.hid hm
  have HA := Lib.hid ha
  have hgb := get_bt s
  clear hO hc hcn hl hsl hF hBK hm hdf ha
  go_enter Tryz.func73, Tryz.ntmps73
  go_wp2
  rw [← hw2, ← hZ]
  clear hw2 hZ hgb hbt hsub hmin
  go_loopw [9] (fun s9 wr => ∃ (d fr : Nat) (x n e : Int), s9 = .int .i64 (fr : Int) ∧ Hid (fr = a - d) ∧ Hid (Hm.way l a d) ∧ Hid (Blk wr Z 89 #[.int .u8 0, .int .i64 0, .int .i64 0]) ∧ Hid (Blk wr (Z + 1) 89 #[.int .u8 x, .int .i64 n, .int .i64 e]) ∧ Hid (x = ((bo c (best l a d)).x.toNat : Int) ∧ n = ((bo c (best l a d)).n : Int) ∧ e = ((bo c (best l a d)).d : Int)) ∧ Hid (Below w.heap.size w wr)) (fun s9 _ => (intOf s9).toNat)
  case atStart => exact ⟨0, a, cn, 0, 0, rfl, Lib.hid rfl, Lib.hid (way_start (by rw [HSL.out]; exact HA.out)), KR, KF, Lib.hid ⟨HCN.out, rfl, rfl⟩, B2⟩
  case round =>
    obtain ⟨d, fr, x, n, e, rfl, HFR, HW, HR, HQ, HX, HB⟩ := hrel
    have hfs : fr < s.size := by have h1 := HFR.out; have h2 := HA.out; omega
    have f0 : (0 : Int) ≤ (fr : Int) := by omega
    have f1 : (fr : Int) < (s.size : Int) := by omega
    have HFK := Lib.hid (HF.out.below HB.out)
    obtain ⟨v, hv⟩ : ∃ v, v = F fr := ⟨_, rfl⟩
    have k0 : wr.cell? ⟨b, fr, none⟩ = some (.int .u16 (v : Int)) := (HFK.out.cell fr).trans ((arr16_get F (by rw [HSL.out]; exact hfs)).trans (by rw [hv]))
    have q0 : wr.cell? ⟨Z + 1, 0, none⟩ = some (.int .u8 x) := HQ.out.cell 0
    have q1 : wr.cell? ⟨Z + 1, 1, none⟩ = some (.int .i64 n) := HQ.out.cell 1
    have q2 : wr.cell? ⟨Z + 1, 2, none⟩ = some (.int .i64 e) := HQ.out.cell 2
    have HV : Hid (isBk l (a - d) v) := Lib.hid (by rw [hv, ← HFR.out]; exact HBK.out fr (by rw [HSL.out]; exact hfs))
    have hv256 : v ≤ fr ∧ v ≤ 256 := by
      by_cases h0 : v = 0
      · omega
      · have h1 := HV.out.yes (by omega); have h2 := HFR.out; omega
    clear hv
    by_cases h0 : v = 0
    · subst h0
      have HEND : Hid (O = bo c (best l a d)) := Lib.hid (by rw [HO.out, ← HC.out, way_none HW.out HV.out])
      clear hfs hv256
      go_wp2_with (first | (refine wpList_load_row rfl 89 _ rfl (Z + 1) rfl _ _ _ _ HQ.out Tryz.underlying89 rfl sizeOp ?_) | (refine wpList_store_row rfl 89 _ _ rfl Z #[.int .u8 x, .int .i64 n, .int .i64 e] rfl rfl _ _ HR.out sizeOp rfl (one3 _ _ _) ?_))
      refine bodyPost_ret (v := .agg #[.int .u8 x, .int .i64 n, .int .i64 e]) (results_cell_row rfl _ _ Z 89 _ _ _ rfl (setRow_heap _ _ _ _ _ _ HR.out) Tryz.underlying89 rfl sizeOp) rfl ?_
      exact ⟨by rw [oc_eq HX.out.1 HX.out.2.1 HX.out.2.2, ← HEND.out], (only_row (S := fun i => i = Z) (Only.refl _ _) rfl _).below HB.out HB.out.size (fun i hi => by rw [hi, HZ.out]; exact Nat.le_refl _)⟩
    · have hv0 : (0 : Int) < (v : Int) := by omega
      have HV0 := Lib.hid h0
      by_cases h1 : n < (most : Int)
      · obtain ⟨fr', hfr'⟩ : ∃ fr', fr' = fr - v := ⟨_, rfl⟩
        obtain ⟨d', hd'⟩ : ∃ d', d' = d + v := ⟨_, rfl⟩
        have hdd := HW.out.hd
        have hfe := HFR.out
        have hcv : IntKind.i64.wrap (v : Int) = (v : Int) := by rw [IntKind.wrap_i64]; omega
        have e1 : IntKind.i64.wrap ((fr : Int) - (v : Int)) = (fr' : Int) := by rw [IntKind.wrap_i64]; omega
        have e2 : IntKind.i64.wrap ((a : Int) - (fr' : Int)) = (d' : Int) := by rw [IntKind.wrap_i64]; omega
        have hfr2 : fr' = a - d' := by omega
        have hd'a : d' ≤ a := by omega
        have HFR' := Lib.hid hfr'
        have HD' := Lib.hid hd'
        have HFA := Lib.hid hfr2
        clear h0 hfr' hd' hdd hfe hfr2
        by_cases h2 : 256 < d'
        · have h2' : (256 : Int) < (d' : Int) := by omega
          have HEND : Hid (O = bo c (best l a d)) := Lib.hid (by rw [HO.out, ← HC.out, way_far HW.out HV.out (by rw [← HD'.out]; exact h2)])
          clear hfs hv256 h2
          go_wp2_with (first | (refine wpList_load_row rfl 89 _ rfl (Z + 1) rfl _ _ _ _ HQ.out Tryz.underlying89 rfl sizeOp ?_) | (refine wpList_store_row rfl 89 _ _ rfl Z #[.int .u8 x, .int .i64 n, .int .i64 e] rfl rfl _ _ HR.out sizeOp rfl (one3 _ _ _) ?_))
          refine bodyPost_ret (v := .agg #[.int .u8 x, .int .i64 n, .int .i64 e]) (results_cell_row rfl _ _ Z 89 _ _ _ rfl (setRow_heap _ _ _ _ _ _ HR.out) Tryz.underlying89 rfl sizeOp) rfl ?_
          exact ⟨by rw [oc_eq HX.out.1 HX.out.2.1 HX.out.2.2, ← HEND.out], (only_row (S := fun i => i = Z) (Only.refl _ _) rfl _).below HB.out HB.out.size (fun i hi => by rw [hi, HZ.out]; exact Nat.le_refl _)⟩
        · have h2' : ¬ (256 : Int) < (d' : Int) := by omega
          have HCM := Lib.hid (common_any (s := s) (a := a) (d := d') (fr := fr') (most := most) hd'a HFA.out HM.out (Nat.le_of_lt HA.out) hs wr)
          obtain ⟨nr, hnr⟩ : ∃ nr, nr = run s.data.toList a d' := ⟨_, rfl⟩
          rw [← hnr] at HCM
          obtain ⟨W1, W2⟩ := way_next HW.out HV.out (by have := HV0.out; omega) (by rw [← HD'.out]; omega)
          have HW1 := Lib.hid W1
          have HBN : Hid (bo c (best l a d') = if 3 ≤ nr ∧ (bo c (best l a d)).n < nr then ⟨0, nr, d'⟩ else bo c (best l a d)) := Lib.hid (by
            rw [HD'.out]
            rw [← HL.out, HD'.out] at hnr
            exact bo_next (by rw [W2, ← hnr]))
          rw [← HD'.out] at HW1
          have hnn : n = ((bo c (best l a d)).n : Int) := HX.out.2.1
          obtain ⟨m, hmm⟩ : ∃ m, m = (bo c (best l a d)).n := ⟨_, rfl⟩
          rw [← hmm] at hnn HBN
          subst hnn
          have HLT : Hid (fr' < fr) := Lib.hid (by have h3 := HFR'.out; have h4 := HV0.out; omega)
          clear W1 W2 hnr hmm h2
          go_wp2_with fail
          refine HCM.out.mono ?_
          rintro e' w5 ⟨rfl, b5⟩
          have HQ5 := Lib.hid (HQ.out.below b5)
          have HR5 := Lib.hid (HR.out.below b5)
          have HB5 := Lib.hid (grows HB.out b5)
          have q1' : w5.cell? ⟨Z + 1, 1, none⟩ = some (.int .i64 (m : Int)) := HQ5.out.cell 1
          clear b5 k0 q0 q1 q2
          by_cases h3 : 3 ≤ nr ∧ m < nr
          · have h3' : ¬ (nr : Int) < 3 := by omega
            have h4' : (m : Int) < (nr : Int) := by omega
            have HBE : Hid (bo c (best l a d') = ⟨0, nr, d'⟩) := Lib.hid (by rw [HBN.out, if_pos h3])
            clear h3
            have g0 : w5.cell? ⟨Z + 1, 0, none⟩ = some (.int .u8 x) := HQ5.out.cell 0
            have g2 : w5.cell? ⟨Z + 1, 2, none⟩ = some (.int .i64 e) := HQ5.out.cell 2
            have y0 : w5.frozen? ⟨Z + 1, 0, none⟩ = false := HQ5.out.frozen 0
            have y1 : w5.frozen? ⟨Z + 1, 1, none⟩ = false := HQ5.out.frozen 1
            have y2 : w5.frozen? ⟨Z + 1, 2, none⟩ = false := HQ5.out.frozen 2
            have HS5 : Hid (Blk (((w5.setCell ⟨Z + 1, 0, none⟩ (.int .u8 0)).setCell ⟨Z + 1, 1, none⟩ (.int .i64 (nr : Int))).setCell ⟨Z + 1, 2, none⟩ (.int .i64 (d' : Int))) (Z + 1) 89 #[.int .u8 0, .int .i64 (nr : Int), .int .i64 (d' : Int)] ∧ Only (fun i => i = Z + 1) w5 (((w5.setCell ⟨Z + 1, 0, none⟩ (.int .u8 0)).setCell ⟨Z + 1, 1, none⟩ (.int .i64 (nr : Int))).setCell ⟨Z + 1, 2, none⟩ (.int .i64 (d' : Int)))) := Lib.hid ⟨((HQ5.out.store 0 (.int .u8 0)).store 1 (.int .i64 (nr : Int))).store 2 (.int .i64 (d' : Int)), (((Only.refl (fun i => i = Z + 1) w5).store (p := ⟨Z + 1, 0, none⟩) (.inl rfl) _).store (p := ⟨Z + 1, 1, none⟩) (.inl rfl) _).store (p := ⟨Z + 1, 2, none⟩) (.inl rfl) _⟩
            go_wp2
            go_roundw
            case rel => exact ⟨d', fr', 0, (nr : Int), (d' : Int), by first | rfl | rw [e1], HFA, HW1, Lib.hid (HR5.out.only HS5.out.2 (by omega)), Lib.hid HS5.out.1, Lib.hid (by rw [HBE.out]; exact ⟨rfl, rfl, rfl⟩), Lib.hid (HS5.out.2.below HB5.out HB5.out.size (fun i hi => by have h9 := HZ.out; omega))⟩
            case measure => have h9 := HLT.out; simp [intOf]; omega
          · have HBE : Hid (bo c (best l a d') = bo c (best l a d)) := Lib.hid (by rw [HBN.out, if_neg h3])
            have HXN : Hid (x = ((bo c (best l a d')).x.toNat : Int) ∧ (m : Int) = ((bo c (best l a d')).n : Int) ∧ e = ((bo c (best l a d')).d : Int)) := Lib.hid (by rw [HBE.out]; exact HX.out)
            rcases (show nr < 3 ∨ (¬ nr < 3 ∧ ¬ m < nr) by omega) with h4 | ⟨h4, h5⟩
            · have h3' : (nr : Int) < 3 := by omega
              clear h3 h4
              go_wp2
              go_roundw
              case rel => exact ⟨d', fr', x, (m : Int), e, by first | rfl | rw [e1], HFA, HW1, HR5, HQ5, HXN, HB5⟩
              case measure => have h9 := HLT.out; simp [intOf]; omega
            · have h3' : ¬ (nr : Int) < 3 := by omega
              have h4' : ¬ (m : Int) < (nr : Int) := by omega
              clear h3 h4 h5
              go_wp2
              go_roundw
              case rel => exact ⟨d', fr', x, (m : Int), e, by first | rfl | rw [e1], HFA, HW1, HR5, HQ5, HXN, HB5⟩
              case measure => have h9 := HLT.out; simp [intOf]; omega
      · have HEND : Hid (O = bo c (best l a d)) := Lib.hid (by
          rw [HO.out, ← HC.out, way_full HW.out ?_]
          have h2 := HX.out.2.1
          have h3 := bo_n c (best l a d)
          have h4 := HM.out
          have h5 := HA.out
          rw [HSL.out, ← h4]
          by_cases h6 : 3 ≤ (best l a d).1
          · rw [if_pos h6] at h3; omega
          · rw [if_neg h6] at h3; omega)
        clear hfs hv256 h0
        go_wp2_with (first | (refine wpList_load_row rfl 89 _ rfl (Z + 1) rfl _ _ _ _ HQ.out Tryz.underlying89 rfl sizeOp ?_) | (refine wpList_store_row rfl 89 _ _ rfl Z #[.int .u8 x, .int .i64 n, .int .i64 e] rfl rfl _ _ HR.out sizeOp rfl (one3 _ _ _) ?_))
        refine bodyPost_ret (v := .agg #[.int .u8 x, .int .i64 n, .int .i64 e]) (results_cell_row rfl _ _ Z 89 _ _ _ rfl (setRow_heap _ _ _ _ _ _ HR.out) Tryz.underlying89 rfl sizeOp) rfl ?_
        exact ⟨by rw [oc_eq HX.out.1 HX.out.2.1 HX.out.2.2, ← HEND.out], (only_row (S := fun i => i = Z) (Only.refl _ _) rfl _).below HB.out HB.out.size (fun i hi => by rw [hi, HZ.out]; exact Nat.le_refl _)⟩

end Go.Proofs.YtnkninjdpgpkmaaGreatDoor.Ho
namespace Go.Proofs.YtnkninjdpgpkmaaGreatDoor.Hp
open Go.RowKit Go.Proofs.YtnkninjdpgpkmaaGreatDoor.Vm Go.Proofs.YtnkninjdpgpkmaaGreatDoor.Vo Go.Proofs.YtnkninjdpgpkmaaGreatDoor.Bm Go.Proofs.YtnkninjdpgpkmaaGreatDoor.Bw Go.Proofs.YtnkninjdpgpkmaaGreatDoor.Na Go.Proofs.YtnkninjdpgpkmaaGreatDoor.Gm Go.Proofs.YtnkninjdpgpkmaaGreatDoor.Gr Go.Proofs.YtnkninjdpgpkmaaGreatDoor.Gp Go.Proofs.YtnkninjdpgpkmaaGreatDoor.Hm Go.Proofs.YtnkninjdpgpkmaaGreatDoor.Gt Go.Proofs.YtnkninjdpgpkmaaGreatDoor.Ho

/-- The cells of ops. -/
def Oc (L : List Opx) : List Value := L.flatMap (fun o => (oc o).toList)
theorem Oc_cons (o : Opx) (L : List Opx) : Oc (o :: L) = .int .u8 (o.x.toNat : Int) :: .int .i64 (o.n : Int) :: .int .i64 (o.d : Int) :: Oc L := rfl
theorem Oc_snoc (L : List Opx) (o : Opx) : Oc (L ++ [o]) = Oc L ++ (oc o).toList := by simp [Oc]
theorem Oc_get : ∀ (L : List Opx) (i : Nat) (o : Opx), L[i]? = some o → (Oc L)[i * 3]? = some (.int .u8 (o.x.toNat : Int)) ∧ (Oc L)[i * 3 + 1]? = some (.int .i64 (o.n : Int)) ∧ (Oc L)[i * 3 + 2]? = some (.int .i64 (o.d : Int))
  | [], _, _, h => by simp at h
  | y :: L, 0, o, h => by
    simp at h
    subst h
    exact ⟨rfl, rfl, rfl⟩
  | y :: L, i + 1, o, h => by
    rw [List.getElem?_cons_succ] at h
    obtain ⟨h1, h2, h3⟩ := Oc_get L i o h
    rw [Oc_cons, show (i + 1) * 3 = i * 3 + 1 + 1 + 1 by omega]
    simp only [List.getElem?_cons_succ]
    exact ⟨h1, h2, h3⟩
/-- A row of ops of the call's own. -/
def opo (base : Nat) (w : World) (v : Value) (L : List Opx) : Prop := w.ownsRow base 89 3 v L.length (Oc L)
theorem opo_nil (w : World) (base : Nat) : opo base w (.slice none 0 0) [] := World.ownsRow_nil _ _ _ _
section
variable {w w' : World} {base : Nat} {v : Value} {L : List Opx}
theorem opo.only {S : Nat → Prop} (h : opo base w v L) (k : Only S w w') (hv : ∀ i, v.ownBlock = some i → ¬ S i) : opo base w' v L := own_only h k hv
theorem opo.below (h : opo base w v L) (k : Below w.heap.size w w') : opo base w' v L := h.only (S := fun _ => False) (Only.of_below k) (fun _ _ e => e)
theorem opo.form (h : opo base w v L) : ∃ A cap, v = .slice A L.length cap := by
  rcases h.2 with ⟨rfl, h0⟩ | ⟨g, cap, _, rfl, _⟩
  · exact ⟨none, 0, by rw [h0]⟩
  · exact ⟨_, cap, rfl⟩
theorem opo.lo (h : opo base w v L) : ∀ i, v.ownBlock = some i → base ≤ i ∧ i < w.heap.size := fun i hi => World.ownsRow.lt h i hi
/-- Read as ops that come. -/
theorem opo.read {A : Option Addr} {n cap : Nat} (h : opo base w (.slice A n cap) L) (hb : ∀ o ∈ L, o.n ≤ 1000000000 ∧ o.d ≤ 1000000000) : opr w A (L.map Opx.int) := by
  intro i o hi
  rw [List.getElem?_map] at hi
  obtain ⟨x, hx, rfl⟩ := Option.map_eq_some_iff.1 hi
  obtain ⟨h1, h2⟩ := hb x (List.mem_of_getElem? hx)
  refine ⟨⟨by show -9223372036854775808 ≤ (x.n : Int); omega, by show (x.n : Int) ≤ _; omega⟩, ⟨by show -9223372036854775808 ≤ (x.d : Int); omega, by show (x.d : Int) ≤ _; omega⟩, ?_⟩
  rcases h.2 with ⟨e0, h0⟩ | ⟨g, c, cur, e1, hbl, hh, _⟩
  · have := (List.getElem?_eq_some_iff.1 hx).1
    omega
  · injection e1 with e1 _ _
    have e : ∀ j, (⟨g, 0, none⟩ : Addr).add j = ⟨g, j, none⟩ := fun j => by unfold Addr.add; split <;> simp_all
    have c := World.ownsRow.cells (g := g) h (by rw [e1]; rfl)
    obtain ⟨g1, g2, g3⟩ := Oc_get L i x hx
    have c1 := c _ _ g1
    have c2 := c _ _ g2
    have c3 := c _ _ g3
    rw [e] at c1 c2 c3
    refine ⟨g, 0, e1, (World.ownsRow.lt h g (by rw [e1]; rfl)).2, ?_, ?_, ?_⟩
    · rw [Nat.zero_add]; exact c1
    · rw [Nat.zero_add]; exact c2
    · rw [Nat.zero_add]; exact c3
end
theorem infoOp : (Tryz.prog.info? 89).map (fun i => (i.zero, i.size, i.bytes)) = some (some (.agg #[.int .u8 0, .int .i64 0, .int .i64 0]), 3, 24) := by kernel_rfl
theorem one_cells (w : World) (x n d : Int) (e : TypeId) : ∀ (j : Nat) (u : Value), ([.int .u8 x, .int .i64 n, .int .i64 d] : List Value)[j]? = some u → (w.alloc (.cells #[.int .u8 x, .int .i64 n, .int .i64 d] e)).cell? ((⟨w.heap.size, 0, none⟩ : Addr).add j) = some u := by
  intro j u hu
  rw [Go.WideShapes.add_plain, Nat.zero_add, Blk.cell (Blk.fresh w e _) j, ← hu]
  simp
theorem one_one (x n d : Int) : ∀ u ∈ ([.int .u8 x, .int .i64 n, .int .i64 d] : List Value), u.oneCell' = true := by
  intro u hu
  simp at hu
  rcases hu with rfl | rfl | rfl <;> rfl
theorem bo_le {l : List UInt8} {a : Nat} (ha : a ≤ l.length) (x : UInt8) : (bo x (best l a (min 256 a))).n ≤ 258 ∧ (bo x (best l a (min 256 a))).d ≤ 256 ∧ a + (bo x (best l a (min 256 a))).n ≤ l.length := by
  obtain ⟨h1, h2, h3, _⟩ := best_facts ha (min 256 a)
  unfold bo
  by_cases h : 3 ≤ (best l a (min 256 a)).1
  · rw [if_pos h]
    have := h3 (by omega)
    exact ⟨h1, by show (best l a (min 256 a)).2 ≤ 256; omega, h2⟩
  · rw [if_neg h]
    exact ⟨by show 0 ≤ 258; omega, by show 0 ≤ 256; omega, by show a + 0 ≤ l.length; omega⟩
set_option maxHeartbeats 2000000 in
set_option maxRecDepth 100000 in
theorem Ops_any {s : ByteArray} (hs : s.size ≤ 1000000) (w : World) :
    Calls Tryz.prog 42 #[.string s] w fun e w' => ∃ A n cap, e = .returned (.slice A n cap) ∧ opo w.heap.size w' (.slice A n cap) (opsM s.data.toList 0) ∧ (∀ o ∈ opsM s.data.toList 0, o.n ≤ 1000000000 ∧ o.d ≤ 1000000000) ∧ Below w.heap.size w w' := by
  obtain ⟨l, hl⟩ : ∃ l, l = s.data.toList := ⟨_, rfl⟩
  have hsl : l.length = s.size := by rw [hl]; exact sz s
  rw [← hl]
  have HL := Lib.hid hl
  have HSL := Lib.hid hsl
  obtain ⟨i0, hi, hz0, hz1, hz2⟩ := info_parts infoOp
  obtain ⟨M, hM⟩ : ∃ M, M = opsM l 0 := ⟨_, rfl⟩
  rw [← hM]
  have HM := Lib.hid hM
  have HBA := Lib.hid (backs_any (s := s) (by omega) w)
  clear hl hsl hM
  go_enter Tryz.func42, Tryz.ntmps42
  go_wp2_with fail
  refine HBA.out.mono ?_
  rintro e w1 ⟨b, rfl, hb, b1⟩
  rw [← HL.out] at hb
  have HB1 := Lib.hid hb
  have B1 := Lib.hid b1
  clear hb b1
  go_wp2
  go_loopw [3, 5] (fun s3 s5 wr => ∃ (a n cap : Nat) (A : Option Addr) (pre : List Opx), s3 = .slice A n cap ∧ s5 = .int .i64 (a : Int) ∧ a ≤ s.size ∧ Hid (n = pre.length ∧ n ≤ a) ∧ Hid (opo w.heap.size wr (.slice A n cap) pre) ∧ Hid (M = pre ++ opsM l a) ∧ Hid (bks wr b l) ∧ Hid (∀ o ∈ pre, o.n ≤ 1000000000 ∧ o.d ≤ 1000000000) ∧ Hid (Below w.heap.size w wr)) (fun _ s5 _ => s.size - (intOf s5).toNat)
  case atStart => exact ⟨0, 0, 0, none, [], rfl, rfl, Nat.zero_le _, Lib.hid ⟨rfl, Nat.le_refl _⟩, Lib.hid (opo_nil _ _), Lib.hid HM.out, HB1, Lib.hid (fun o h => by cases h), B1⟩
  case round =>
    obtain ⟨a, n, cap, A, pre, rfl, rfl, ha, HN, HO, HMM, HBK, HLE, HB⟩ := hrel
    by_cases han : a < s.size
    · have han' : (a : Int) < (s.size : Int) := by omega
      have ha0 : (0 : Int) ≤ (a : Int) := by omega
      have HBE := best_any (s := s) (b := b) (a := a) (w := wr) (by omega) (by rw [← HL.out]; exact HBK.out) han
      rw [← HL.out] at HBE
      obtain ⟨o, ho⟩ : ∃ o, o = bo (l.getD a 0) (best l a (min 256 a)) := ⟨_, rfl⟩
      have hle := bo_le (l := l) (a := a) (by rw [HSL.out]; exact ha) (l.getD a 0)
      have hat := opsM_at (l := l) (a := a) (by rw [HSL.out]; exact han)
      rw [← ho] at HBE hle hat
      unfold oc at HBE
      have HAT := Lib.hid hat
      have HOL := Lib.hid hle
      have HAN := Lib.hid han
      obtain ⟨a', ha'⟩ : ∃ a', a' = a + (if o.n = 0 then 1 else o.n) := ⟨_, rfl⟩
      have HA' := Lib.hid ha'
      have hal : a' ≤ s.size ∧ a < a' := by rw [ha']; have h1 := HSL.out; split <;> omega
      obtain ⟨x, hx⟩ : ∃ x : Int, x = (o.x.toNat : Int) := ⟨_, rfl⟩
      obtain ⟨on, hon⟩ : ∃ on, on = o.n := ⟨_, rfl⟩
      obtain ⟨od, hod⟩ : ∃ od, od = o.d := ⟨_, rfl⟩
      rw [← hx, ← hon, ← hod] at HBE
      have HBE := Lib.hid HBE
      have HOC : Hid ((oc o).toList = [.int .u8 x, .int .i64 (on : Int), .int .i64 (od : Int)]) := Lib.hid (by unfold oc; rw [← hx, ← hon, ← hod])
      obtain ⟨pn, hpn⟩ : ∃ pn : Int, pn = if (on : Int) = 0 then 1 else (on : Int) := ⟨_, rfl⟩
      have hsum : IntKind.i64.wrap ((a : Int) + pn) = (a' : Int) := by
        have e : (a : Int) + pn = (a' : Int) := by
          rw [hpn, ha', hon]
          by_cases h : o.n = 0
          · rw [if_pos h, if_pos (by omega)]; omega
          · rw [if_neg h, if_neg (by omega)]; omega
        rw [e, IntKind.wrap_i64]; omega
      have HPN := Lib.hid hpn
      have hn1 : Hid (n + 1 ≤ 1000001) := Lib.hid (by have := HN.out.2; omega)
      clear ho hle hat han ha' hx hon hod hpn
      go_wp2_with fail
      refine HBE.out.mono ?_
      rintro e w2 ⟨rfl, b2⟩
      have O2 := Lib.hid (HO.out.below b2)
      have BK2 := Lib.hid (HBK.out.below b2)
      have B2 := Lib.hid (grows HB.out b2)
      clear b2
      obtain ⟨w3, hw3⟩ : ∃ w3, w3 = w2.alloc (.cells #[.int .u8 x, .int .i64 (on : Int), .int .i64 (od : Int)] 89) := ⟨_, rfl⟩
      obtain ⟨Z, hZ⟩ : ∃ Z, Z = w2.heap.size := ⟨_, rfl⟩
      have K3 : Hid (Blk w3 Z 89 #[.int .u8 x, .int .i64 (on : Int), .int .i64 (od : Int)]) := Lib.hid (by rw [hw3, hZ]; exact Blk.fresh _ _ _)
      have B3 : Hid (Below w2.heap.size w2 w3) := Lib.hid (by rw [hw3]; exact below_alloc _ _)
      have O3 := Lib.hid (O2.out.below B3.out)
      have BK3 := Lib.hid (BK2.out.below B3.out)
      have HZ : Hid (∀ i, (Value.slice A n cap).ownBlock = some i → i < Z) := Lib.hid (fun i hi => by rw [hZ]; exact (O2.out.lo i hi).2)
      have z0 : w3.cell? ⟨Z, 0, none⟩ = some (.int .u8 x) := K3.out.cell 0
      have z1 : w3.cell? ⟨Z, 1, none⟩ = some (.int .i64 (on : Int)) := K3.out.cell 1
      have z2 : w3.cell? ⟨Z, 2, none⟩ = some (.int .i64 (od : Int)) := K3.out.cell 2
      have HOW : Hid (w3.ownsRow w.heap.size 89 3 (.slice A n cap) n (Oc pre)) := Lib.hid (by have h := O3.out; unfold opo at h; rw [← HN.out.1] at h; exact h)
      obtain ⟨w4, hw4⟩ : ∃ w4, w4 = (w2.alloc (.cells #[.int .u8 x, .int .i64 (on : Int), .int .i64 (od : Int)] 89)).alloc (.cells #[.int .u8 x, .int .i64 (on : Int), .int .i64 (od : Int)] 89) := ⟨_, rfl⟩
      have B4 : Hid (Below w3.heap.size w3 w4) := Lib.hid (by rw [hw4, ← hw3]; exact below_alloc _ _)
      have HOW4 : Hid (w4.ownsRow w.heap.size 89 3 (.slice A n cap) n (Oc pre)) := Lib.hid (by rw [hw4, ← hw3]; exact HOW.out.alloc _)
      have HNC : Hid (∀ (j : Nat) (u : Value), ([.int .u8 x, .int .i64 (on : Int), .int .i64 (od : Int)] : List Value)[j]? = some u → w4.cell? ((⟨w2.heap.size + 1, 0, none⟩ : Addr).add j) = some u) := Lib.hid (by
        have h := one_cells w3 x on od 89
        rw [show w3.heap.size = w2.heap.size + 1 by rw [hw3, size_alloc]] at h
        rw [hw4, ← hw3]; exact h)
      have K4 := Lib.hid (K3.out.below B4.out)
      have BK4 := Lib.hid (BK3.out.below B4.out)
      have B24 := Lib.hid (grows B2.out (grows B3.out B4.out))
      have HPR := Lib.hid (produced_any x (on : Int) (od : Int))
      rw [← HPN.out] at HPR
      clear hw3 z0 z1 z2
      go_wp2_with (at_builtin; rw [← hw4]; refine wpList_append_own_at _ rfl _ _ 90 rfl w.heap.size 89 i0 (.agg #[.int .u8 0, .int .i64 0, .int .i64 0]) 3 24 Tryz.underlying90 hi hz0 hz1 hz2 rfl (by decide) _ n (Oc pre) rfl HOW4.out ⟨w2.heap.size + 1, 0, none⟩ 1 1 [.int .u8 x, .int .i64 (on : Int), .int .i64 (od : Int)] rfl rfl HNC.out (one_one _ _ _) ?a3 ?a4 ?a5 ?_)
      case a3 => unfold maxLen; have := hn1.out; omega
      case a4 => have := hn1.out; omega
      case a5 => exact B24.out.size
      intro v3 w5 hown hgrow _ _
      have O45 : Hid (Only (fun i => (Value.slice A n cap).ownBlock = some i) w4 w5) := Lib.hid (by rw [← hw4] at hgrow; exact (Only.refl _ w4).grown hgrow (fun i hi _ => hi))
      have OW5 : Hid (opo w.heap.size w5 v3 (pre ++ [o])) := Lib.hid (by unfold opo; rw [Oc_snoc, HOC.out, List.length_append, ← HN.out.1]; exact hown)
      obtain ⟨A5, c5, hv5⟩ := OW5.out.form
      obtain ⟨n5, hn5⟩ : ∃ n5, n5 = (pre ++ [o]).length := ⟨_, rfl⟩
      rw [← hn5] at hv5
      subst hv5
      have HN5 : Hid (n5 = (pre ++ [o]).length ∧ n5 ≤ a') := Lib.hid ⟨hn5, by rw [hn5, List.length_append, ← HN.out.1]; have := HN.out.2; have := hal.2; simp; omega⟩
      have K5 : Hid (Blk w5 Z 89 #[.int .u8 x, .int .i64 (on : Int), .int .i64 (od : Int)]) := Lib.hid (K4.out.only O45.out (fun e => by have := HZ.out Z e; omega))
      have BK5 : Hid (bks w5 b l) := Lib.hid (by
        obtain ⟨F, h1, h2⟩ := BK4.out
        exact ⟨F, h1.only O45.out (fun e => own_apart HOW4.out h1 (by decide) b e rfl), h2⟩)
      have B5 : Hid (Below w.heap.size w w5) := Lib.hid (O45.out.below B24.out B24.out.size (fun i hi => (HOW4.out.lt i hi).1))
      have y0 : w5.cell? ⟨Z, 0, none⟩ = some (.int .u8 x) := K5.out.cell 0
      have y1 : w5.cell? ⟨Z, 1, none⟩ = some (.int .i64 (on : Int)) := K5.out.cell 1
      have y2 : w5.cell? ⟨Z, 2, none⟩ = some (.int .i64 (od : Int)) := K5.out.cell 2
      rw [← hZ]
      clear hown hgrow hn5 hw4 hZ
      go_wp2_with fail
      refine (HPR.out w5).mono ?_
      rintro e w6 ⟨rfl, b6⟩
      have B6 := Lib.hid (grows B5.out b6)
      have OW6 := Lib.hid (OW5.out.below b6)
      have BK6 := Lib.hid (BK5.out.below b6)
      clear b6 y0 y1 y2
      go_wp2
      go_roundw
      case rel => exact ⟨a', n5, c5, A5, pre ++ [o], rfl, by first | rfl | rw [hsum], hal.1, HN5, OW6, Lib.hid (by rw [HMM.out, HAT.out, ← HA'.out, List.append_assoc]; rfl), BK6, Lib.hid (fun y hy => by
        rcases List.mem_append.1 hy with h | h
        · exact HLE.out y h
        · obtain rfl : y = o := by simpa using h
          have := HOL.out
          exact ⟨by omega, by omega⟩), B6⟩
      case measure => have := HAN.out; have := hal.2; simp [intOf]; omega
    · have han' : ¬ (a : Int) < (s.size : Int) := by omega
      have HE : Hid (M = pre) := Lib.hid (by rw [HMM.out, opsM_end (by rw [HSL.out]; omega), List.append_nil])
      clear han
      go_wp2
      go_ret
      exact ⟨A, n, cap, rfl, by rw [HE.out]; exact HO.out, by rw [HE.out]; exact HLE.out, HB.out⟩
end Go.Proofs.YtnkninjdpgpkmaaGreatDoor.Hp
namespace Go.Proofs.YtnkninjdpgpkmaaGreatDoor.Hs
open Go.RowKit Go.Proofs.YtnkninjdpgpkmaaGreatDoor.Vm Go.Proofs.YtnkninjdpgpkmaaGreatDoor.Vo Go.Proofs.YtnkninjdpgpkmaaGreatDoor.Bm Go.Proofs.YtnkninjdpgpkmaaGreatDoor.Bw Go.Proofs.YtnkninjdpgpkmaaGreatDoor.Na Go.Proofs.YtnkninjdpgpkmaaGreatDoor.Ke Go.Proofs.YtnkninjdpgpkmaaGreatDoor.Gm Go.Proofs.YtnkninjdpgpkmaaGreatDoor.Gr Go.Proofs.YtnkninjdpgpkmaaGreatDoor.Gp Go.Proofs.YtnkninjdpgpkmaaGreatDoor.Hm Go.Proofs.YtnkninjdpgpkmaaGreatDoor.Gt Go.Proofs.YtnkninjdpgpkmaaGreatDoor.Ho Go.Proofs.YtnkninjdpgpkmaaGreatDoor.Hp Go.Proofs.YtnkninjdpgpkmaaGreatDoor.Ira

/-- The pieces of m bytes from off on, n each: where they begin, how many bytes they have. -/
def pcsF (n : Nat) : Nat → Nat → Nat → List (Nat × Nat)
  | 0, off, m => [(off, m)]
  | f + 1, off, m => if n < m then (off, n) :: pcsF n f (off + n) (m - n) else [(off, m)]
def pcs (n N : Nat) : List (Nat × Nat) := pcsF n N 0 N
theorem pcsF_end {n f off m : Nat} (h : ¬ n < m) : pcsF n f off m = [(off, m)] := by
  cases f with
  | zero => rfl
  | succ f => rw [pcsF, if_neg h]
theorem pcsF_next {n f off m : Nat} (h : n < m) : pcsF n (f + 1) off m = (off, n) :: pcsF n f (off + n) (m - n) := by rw [pcsF, if_pos h]
theorem pcsF_in (n : Nat) : ∀ f off m, ∀ x ∈ pcsF n f off m, off ≤ x.1 ∧ x.1 + x.2 ≤ off + m
  | 0, off, m, x, hx => by
    simp only [pcsF, List.mem_singleton] at hx
    subst hx; exact ⟨Nat.le_refl _, Nat.le_refl _⟩
  | f + 1, off, m, x, hx => by
    rw [pcsF] at hx
    by_cases h : n < m
    · rw [if_pos h] at hx
      rcases List.mem_cons.1 hx with rfl | hx
      · exact ⟨Nat.le_refl _, by show off + n ≤ off + m; omega⟩
      · have := pcsF_in n f (off + n) (m - n) x hx
        omega
    · rw [if_neg h] at hx
      simp only [List.mem_singleton] at hx
      subst hx; exact ⟨Nat.le_refl _, Nat.le_refl _⟩
theorem pcsF_len (n : Nat) : ∀ f off m, (pcsF n f off m).length ≤ f + 1
  | 0, off, m => by simp [pcsF]
  | f + 1, off, m => by
    rw [pcsF]
    split
    · have := pcsF_len n f (off + n) (m - n)
      simp only [List.length_cons]; omega
    · simp
theorem pcsF_pos (n : Nat) : ∀ f off m, 0 < (pcsF n f off m).length
  | 0, off, m => by simp [pcsF]
  | f + 1, off, m => by
    rw [pcsF]
    split <;> simp
/-- Slices of a block. -/
def Sl (g : Nat) (L : List (Nat × Nat)) : List Value := L.map (fun x => .slice (some ⟨g, x.1, none⟩) x.2 x.2)
theorem infoSl : (Tryz.prog.info? 62).map (fun i => (i.zero, i.size, i.bytes)) = some (some (.slice none 0 0), 1, 24) := by kernel_rfl
theorem sl_cell (w : World) (v : Value) (e : TypeId) : ∀ (j : Nat) (u : Value), ([v] : List Value)[j]? = some u → (w.alloc (.cells #[v] e)).cell? ((⟨w.heap.size, 0, none⟩ : Addr).add j) = some u := by
  intro j u hu
  rw [Go.WideShapes.add_plain, Nat.zero_add, Blk.cell (Blk.fresh w e _) j, ← hu]
  simp
theorem sl_one (A : Option Addr) (n c : Nat) : ∀ u ∈ ([.slice A n c] : List Value), u.oneCell' = true := by
  intro u hu
  simp at hu
  subst hu; rfl
set_option maxHeartbeats 2000000 in
set_option maxRecDepth 100000 in
theorem pieces_any {w : World} {g N cap n : Nat} (hc : N ≤ cap) (hN : N ≤ 1000000) (hn : 1 ≤ n) (hn2 : n ≤ 65535) :
    Calls Tryz.prog 58 #[.slice (some ⟨g, 0, none⟩) N cap, .int .i64 (n : Int)] w fun e w' => ∃ A k c, e = .returned (.slice A k c) ∧ k = (pcs n N).length ∧ w'.ownsRow w.heap.size 62 1 (.slice A k c) k (Sl g (pcs n N)) ∧ Below w.heap.size w w' := by
  obtain ⟨i0, hi, hz0, hz1, hz2⟩ := info_parts infoSl
  obtain ⟨P, hP⟩ : ∃ P, P = pcs n N := ⟨_, rfl⟩
  rw [← hP]
  have HP := Lib.hid hP
  clear hP
  go_enter Tryz.func58, Tryz.ntmps58
  go_wp2
  go_loopg [0, 5] N (fun gk s0 s5 wr => ∃ (off m cp k c f : Nat) (A : Option Addr) (pre : List (Nat × Nat)), s0 = .slice (some ⟨g, off, none⟩) m cp ∧ s5 = .slice A k c ∧ gk = m ∧ off + m = N ∧ m ≤ cp ∧ m ≤ f ∧ k + m ≤ N ∧ Hid (k = pre.length) ∧ Hid (P = pre ++ pcsF n f off m) ∧ Hid (wr.ownsRow w.heap.size 62 1 (.slice A k c) k (Sl g pre)) ∧ Hid (Below w.heap.size w wr))
  case atStart => exact ⟨0, N, cap, 0, 0, N, none, [], rfl, rfl, rfl, by omega, hc, Nat.le_refl _, by omega, Lib.hid rfl, Lib.hid HP.out, Lib.hid (World.ownsRow_nil _ _ _ _), Lib.hid (Below.refl _ _)⟩
  case round =>
    obtain ⟨off, m, cp, k, c, f, A, pre, rfl, rfl, rfl, ho, hmc, hmf, hkm, HK, HPP, HO, HB⟩ := hrel
    by_cases hnm : n < gk
    · have hnm' : (n : Int) < (gk : Int) := by omega
      have hn0 : (0 : Int) ≤ (n : Int) := by omega
      have hnc : (n : Int) ≤ (cp : Int) := by omega
      have hnc2 : n ≤ cp := by omega
      have hng : n ≤ gk := by omega
      obtain ⟨f', hf'⟩ : ∃ f', f = f' + 1 := ⟨f - 1, by omega⟩
      have HPN : Hid (P = (pre ++ [(off, n)]) ++ pcsF n f' (off + n) (gk - n)) := Lib.hid (by rw [HPP.out, hf', pcsF_next hnm, List.append_assoc]; rfl)
      obtain ⟨w1, hw1⟩ : ∃ w1, w1 = wr.alloc (.cells #[.slice (some ⟨g, off, none⟩) n n] 62) := ⟨_, rfl⟩
      have B1 : Hid (Below wr.heap.size wr w1) := Lib.hid (by rw [hw1]; exact below_alloc _ _)
      have HO1 : Hid (w1.ownsRow w.heap.size 62 1 (.slice A k c) k (Sl g pre)) := Lib.hid (by rw [hw1]; exact HO.out.alloc _)
      have HNC : Hid (∀ (j : Nat) (u : Value), ([.slice (some ⟨g, off, none⟩) n n] : List Value)[j]? = some u → w1.cell? ((⟨wr.heap.size, 0, none⟩ : Addr).add j) = some u) := Lib.hid (by rw [hw1]; exact sl_cell wr _ _)
      have BB1 := Lib.hid (grows HB.out B1.out)
      have HKL := Lib.hid (show k + 1 ≤ 1000001 by omega)
      go_wp2_with (at_builtin; rw [← hw1]; refine wpList_append_own_at _ rfl _ _ 117 rfl w.heap.size 62 i0 (.slice none 0 0) 1 24 Tryz.underlying117 hi hz0 hz1 hz2 rfl (by decide) _ k (Sl g pre) rfl HO1.out ⟨wr.heap.size, 0, none⟩ 1 1 [.slice (some ⟨g, off, none⟩) n n] rfl rfl HNC.out (sl_one _ _ _) ?a3 ?a4 ?a5 ?_)
      case a3 => unfold maxLen; have := HKL.out; omega
      case a4 => have := HKL.out; omega
      case a5 => exact BB1.out.size
      intro v3 w5 hown hgrow _ _
      have O5 : Hid (Only (fun i => (Value.slice A k c).ownBlock = some i) w1 w5) := Lib.hid (by first | exact (Only.refl _ w1).grown hgrow (fun i hi _ => hi) | (rw [← hw1] at hgrow; exact (Only.refl _ w1).grown hgrow (fun i hi _ => hi)))
      have B5 : Hid (Below w.heap.size w w5) := Lib.hid (O5.out.below BB1.out BB1.out.size (fun i hi => (HO1.out.lt i hi).1))
      obtain ⟨A5, c5, hv5⟩ : ∃ A5 c5, v3 = .slice A5 (k + 1) c5 := by
        rcases hown.2 with ⟨rfl, h0⟩ | ⟨g, cap, _, rfl, _⟩
        · omega
        · exact ⟨_, cap, rfl⟩
      subst hv5
      have OW5 : Hid (w5.ownsRow w.heap.size 62 1 (.slice A5 (k + 1) c5) (k + 1) (Sl g (pre ++ [(off, n)]))) := Lib.hid (by unfold Sl at hown ⊢; rw [List.map_append]; exact hown)
      obtain ⟨k', hk'⟩ : ∃ k', k' = k + 1 := ⟨_, rfl⟩
      rw [← hk'] at OW5 ⊢
      have HK' : Hid (k' = (pre ++ [(off, n)]).length ∧ k' + (gk - n) ≤ N) := Lib.hid ⟨by rw [hk', List.length_append, HK.out]; rfl, by omega⟩
      have hnc3 : n < cp := by omega
      have hnc4 : ¬ cp = n := by omega
      have HFF := Lib.hid hf'
      clear hown hgrow hk' hf' hw1
      have hnk : k + gk ≤ N := hkm
      have HPQ := Lib.hid (show gk - n < gk by omega)
      have HFQ := Lib.hid (show off + n + (gk - n) = N ∧ gk - n ≤ cp - n ∧ gk - n ≤ f' by have := HFF.out; omega)
      clear hnk
      go_wp2
      go_roundg (gk - n)
      case measure => exact HPQ.out
      case rel => exact ⟨off + n, gk - n, cp - n, k', c5, f', A5, pre ++ [(off, n)], rfl, rfl, rfl, HFQ.out.1, HFQ.out.2.1, HFQ.out.2.2, HK'.out.2, Lib.hid HK'.out.1, HPN, OW5, B5⟩
    · have hnm' : ¬ (n : Int) < (gk : Int) := by omega
      have hgc : (gk : Int) ≤ (cp : Int) := by omega
      have hg0 : (0 : Int) ≤ (gk : Int) := by omega
      have HPE : Hid (P = pre ++ [(off, gk)]) := Lib.hid (by rw [HPP.out, pcsF_end hnm])
      obtain ⟨w1, hw1⟩ : ∃ w1, w1 = wr.alloc (.cells #[.slice (some ⟨g, off, none⟩) gk gk] 62) := ⟨_, rfl⟩
      have B1 : Hid (Below wr.heap.size wr w1) := Lib.hid (by rw [hw1]; exact below_alloc _ _)
      have HO1 : Hid (w1.ownsRow w.heap.size 62 1 (.slice A k c) k (Sl g pre)) := Lib.hid (by rw [hw1]; exact HO.out.alloc _)
      have HNC : Hid (∀ (j : Nat) (u : Value), ([.slice (some ⟨g, off, none⟩) gk gk] : List Value)[j]? = some u → w1.cell? ((⟨wr.heap.size, 0, none⟩ : Addr).add j) = some u) := Lib.hid (by rw [hw1]; exact sl_cell wr _ _)
      have BB1 := Lib.hid (grows HB.out B1.out)
      have HKL := Lib.hid (show k + 1 ≤ 1000001 by omega)
      clear hnm
      go_wp2_with (at_builtin; rw [← hw1]; refine wpList_append_own_at _ rfl _ _ 117 rfl w.heap.size 62 i0 (.slice none 0 0) 1 24 Tryz.underlying117 hi hz0 hz1 hz2 rfl (by decide) _ k (Sl g pre) rfl HO1.out ⟨wr.heap.size, 0, none⟩ 1 1 [.slice (some ⟨g, off, none⟩) gk gk] rfl rfl HNC.out (sl_one _ _ _) ?b3 ?b4 ?b5 ?_)
      case b3 => unfold maxLen; have := HKL.out; omega
      case b4 => have := HKL.out; omega
      case b5 => have := HB.out.size; first | exact BB1.out.size | omega
      intro v3 w5 hown hgrow _ _
      have O5 : Hid (Only (fun i => (Value.slice A k c).ownBlock = some i) w1 w5) := Lib.hid (by first | exact (Only.refl _ w1).grown hgrow (fun i hi _ => hi) | (rw [← hw1] at hgrow; exact (Only.refl _ w1).grown hgrow (fun i hi _ => hi)))
      have B5 : Hid (Below w.heap.size w w5) := Lib.hid (O5.out.below BB1.out BB1.out.size (fun i hi => (HO1.out.lt i hi).1))
      obtain ⟨A5, c5, hv5⟩ : ∃ A5 c5, v3 = .slice A5 (k + 1) c5 := by
        rcases hown.2 with ⟨rfl, h0⟩ | ⟨g, cap, _, rfl, _⟩
        · omega
        · exact ⟨_, cap, rfl⟩
      subst hv5
      have OW5 : Hid (w5.ownsRow w.heap.size 62 1 (.slice A5 (k + 1) c5) (k + 1) (Sl g (pre ++ [(off, gk)]))) := Lib.hid (by unfold Sl at hown ⊢; rw [List.map_append]; exact hown)
      clear hown hgrow hw1
      go_wp2
      go_ret
      exact ⟨A5, k + 1, c5, rfl, by rw [HPE.out, List.length_append, HK.out]; rfl, by rw [HPE.out]; exact OW5.out, B5.out⟩

/-- A part of a text's piece: its number, its text, its ops. -/
structure Sp where
  k : Nat
  t : List UInt8
  os : List Opx
noncomputable def sp (i : Nat) (x : List UInt8) : Sp := if i % 2 = 0 then ⟨0, x, []⟩ else ⟨1, [], opsM x 0⟩
/-- .. in memory: where its ops lie. -/
structure Pc where
  k : Nat
  t : ByteArray
  os : List Opx
  A : Option Addr
  c : Nat
def Pc.sp (p : Pc) : Sp := ⟨p.k, p.t.data.toList, p.os⟩
def Pc.cells (p : Pc) : List Value := [.int .i64 (p.k : Int), .string p.t, .slice p.A p.os.length p.c, .slice none 0 0, .slice none 0 0]
def Pc.pz (p : Pc) : Pz := ⟨(p.k : Int), p.t, p.os.map Opx.int, 0, fun _ => 0, 0, fun _ => 0⟩
structure pcM (base : Nat) (w : World) (p : Pc) : Prop where
  o : opo base w (.slice p.A p.os.length p.c) p.os
  n : ∀ o ∈ p.os, o.n ≤ 1000000000 ∧ o.d ≤ 1000000000
  l : p.os.length ≤ 1000000
  k : p.k ≤ 1
theorem pcM.below {base : Nat} {w w' : World} {p : Pc} (h : pcM base w p) (k : Below w.heap.size w w') : pcM base w' p := ⟨h.o.below k, h.n, h.l, h.k⟩
theorem pcM.lower {base b : Nat} {w : World} {p : Pc} (h : pcM base w p) (hb : b ≤ base) : pcM b w p := by
  refine ⟨⟨h.o.1, ?_⟩, h.n, h.l, h.k⟩
  rcases h.o.2 with h0 | ⟨g, cap, cur, e1, e2, e3⟩
  · exact .inl h0
  · exact .inr ⟨g, cap, cur, e1, Nat.le_trans hb e2, e3⟩
theorem sizePt : (Tryz.prog.info? 92).map (·.size) = some 5 := by kernel_rfl
theorem one5 (k : Int) (t : ByteArray) (A1 : Option Addr) (n1 c1 : Nat) (A2 : Option Addr) (n2 c2 : Nat) (A3 : Option Addr) (n3 c3 : Nat) : (#[.int .i64 k, .string t, .slice A1 n1 c1, .slice A2 n2 c2, .slice A3 n3 c3] : Array Value).all (·.oneCell') = true := by simp [Value.oneCell']
theorem ba_list (s : ByteArray) : (⟨s.data.toList.toArray⟩ : ByteArray) = s := by cases s; simp
theorem opsM_len (l : List UInt8) : (opsM l 0).length ≤ l.length := by
  have h := (opsM_make l [] l.length 0 (by omega) (Nat.zero_le _)).2.2
  omega
set_option maxHeartbeats 1000000 in
set_option maxRecDepth 100000 in
theorem partOf_any {i : Nat} {s : ByteArray} (hi : i ≤ 1000001) (hs : s.size ≤ 1000000) (w : World) :
    Calls Tryz.prog 59 #[.int .i64 (i : Int), .string s] w fun e w' => ∃ p : Pc, e = .returned (.agg #[.int .i64 (p.k : Int), .string p.t, .slice p.A p.os.length p.c, .slice none 0 0, .slice none 0 0]) ∧ p.sp = sp i s.data.toList ∧ pcM w.heap.size w' p ∧ Below w.heap.size w w' := by
  obtain ⟨w1, hw1⟩ : ∃ w1, w1 = w.alloc (.cells #[.int .i64 0, .string ⟨#[]⟩, .slice none 0 0, .slice none 0 0, .slice none 0 0] 92) := ⟨_, rfl⟩
  have B1 : Hid (Below w.heap.size w w1) := Lib.hid (by rw [hw1]; exact below_alloc _ _)
  have K1 : Hid (Blk w1 w.heap.size 92 #[.int .i64 0, .string ⟨#[]⟩, .slice none 0 0, .slice none 0 0, .slice none 0 0]) := Lib.hid (by rw [hw1]; exact Blk.fresh _ _ _)
  by_cases h0 : i % 2 = 0
  · have hm2 : ((i : Int) % 2 == 0) = true := by simp; omega
    have HSP : Hid (sp i s.data.toList = ⟨0, s.data.toList, []⟩) := Lib.hid (by unfold sp; rw [if_pos h0])
    clear h0
    go_enter Tryz.func59, Tryz.ntmps59
    go_wp2_with (first | (rw [← hw1]; refine wpList_store_row rfl 92 _ _ rfl w.heap.size #[.int .i64 0, .string s, .slice none 0 0, .slice none 0 0, .slice none 0 0] rfl rfl _ _ K1.out sizePt rfl (one5 _ _ _ _ _ _ _ _ _ _ _) ?_))
    refine bodyPost_ret (v := .agg #[.int .i64 0, .string s, .slice none 0 0, .slice none 0 0, .slice none 0 0]) (results_cell_row rfl _ _ w.heap.size 92 _ _ _ rfl (setRow_heap _ _ _ _ _ _ K1.out) Tryz.underlying92 rfl sizePt) rfl ?_
    refine ⟨⟨0, s, [], none, 0⟩, rfl, by rw [HSP.out]; rfl, ⟨opo_nil _ _, fun o h => (by cases h), Nat.zero_le _, Nat.zero_le _⟩, (only_row (S := fun i => i = w.heap.size) (Only.refl _ _) rfl _).below B1.out B1.out.size (fun i hi => by rw [hi]; exact Nat.le_refl _)⟩
  · have hm2 : ((i : Int) % 2 == 0) = false := by simp; omega
    have HSP : Hid (sp i s.data.toList = ⟨1, [], opsM s.data.toList 0⟩) := Lib.hid (by unfold sp; rw [if_neg h0])
    have HOP := Lib.hid (Ops_any hs w1)
    have HSL : Hid (s.data.toList.length ≤ 1000000) := Lib.hid (by rw [sz]; exact hs)
    clear h0
    go_enter Tryz.func59, Tryz.ntmps59
    go_wp2_with fail
    rw [← hw1]
    clear hw1
    refine HOP.out.mono ?_
    rintro e w2 ⟨A, n, c, rfl, o2, l2, b2⟩
    have O2 := Lib.hid o2
    have L2 := Lib.hid l2
    have B2 := Lib.hid (grows B1.out b2)
    have K2 := Lib.hid (K1.out.below b2)
    have hnl : n = (opsM s.data.toList 0).length := by
      obtain ⟨A', cap', e⟩ := o2.form
      injection e
    have HNL := Lib.hid hnl
    obtain ⟨Z0, hZ0⟩ : ∃ Z0 : ByteArray, Z0 = ⟨#[]⟩ := ⟨_, rfl⟩
    have HZ0 := Lib.hid hZ0
    clear o2 l2 b2 hnl
    go_wp2_with (first | (refine wpList_store_row rfl 92 _ _ rfl w.heap.size #[.int .i64 1, .string ⟨#[]⟩, .slice A n c, .slice none 0 0, .slice none 0 0] rfl rfl _ _ K2.out sizePt rfl (one5 _ _ _ _ _ _ _ _ _ _ _) ?_))
    refine bodyPost_ret (v := .agg #[.int .i64 1, .string ⟨#[]⟩, .slice A n c, .slice none 0 0, .slice none 0 0]) (results_cell_row rfl _ _ w.heap.size 92 _ _ _ rfl (setRow_heap _ _ _ _ _ _ K2.out) Tryz.underlying92 rfl sizePt) rfl ?_
    obtain ⟨w3, hw3⟩ : ∃ w3, w3 = w2.setRow w.heap.size #[.int .i64 1, .string ⟨#[]⟩, .slice A n c, .slice none 0 0, .slice none 0 0] := ⟨_, rfl⟩
    have o3 : Only (fun i => i = w.heap.size) w2 w3 := by rw [hw3]; exact only_row (S := fun i => i = w.heap.size) (Only.refl _ _) rfl _
    rw [← hw3]
    refine ⟨⟨1, ⟨#[]⟩, opsM s.data.toList 0, A, c⟩, by rw [← HNL.out]; rfl, by rw [HSP.out]; rfl, pcM.lower (base := w1.heap.size) ⟨?_, L2.out, by have := opsM_len s.data.toList; have := HSL.out; show (opsM s.data.toList 0).length ≤ _; omega, Nat.le_refl _⟩ B1.out.size, o3.below B2.out B2.out.size (fun i hi => by rw [hi]; exact Nat.le_refl _)⟩
    show opo w1.heap.size w3 (.slice A (opsM s.data.toList 0).length c) (opsM s.data.toList 0)
    rw [← HNL.out]
    exact O2.out.only o3 (fun i hi e => own_apart O2.out K2.out (by decide) i hi e)

/-- Parts in a row of the call's own. -/
def Pcs (L : List Pc) : List Value := L.flatMap Pc.cells
theorem Pcs_snoc (L : List Pc) (p : Pc) : Pcs (L ++ [p]) = Pcs L ++ p.cells := by simp [Pcs]
theorem Pcs_get : ∀ (L : List Pc) (i : Nat) (p : Pc), L[i]? = some p → (Pcs L)[i * 5]? = some (.int .i64 (p.k : Int)) ∧ (Pcs L)[i * 5 + 1]? = some (.string p.t) ∧ (Pcs L)[i * 5 + 2]? = some (.slice p.A p.os.length p.c) ∧ (Pcs L)[i * 5 + 3]? = some (.slice none 0 0) ∧ (Pcs L)[i * 5 + 4]? = some (.slice none 0 0)
  | [], _, _, h => by simp at h
  | y :: L, 0, p, h => by
    simp at h
    subst h
    exact ⟨rfl, rfl, rfl, rfl, rfl⟩
  | y :: L, i + 1, p, h => by
    rw [List.getElem?_cons_succ] at h
    obtain ⟨h1, h2, h3, h4, h5⟩ := Pcs_get L i p h
    have e : Pcs (y :: L) = y.cells ++ Pcs L := rfl
    have e2 : ∀ j, (Pcs (y :: L))[(i + 1) * 5 + j]? = (Pcs L)[i * 5 + j]? := fun j => by
      rw [e, List.getElem?_append_right (by show 5 ≤ _; omega)]
      congr 1
      show (i + 1) * 5 + j - 5 = i * 5 + j
      omega
    exact ⟨(e2 0).trans h1, (e2 1).trans h2, (e2 2).trans h3, (e2 3).trans h4, (e2 4).trans h5⟩
structure pcs' (base : Nat) (w : World) (v : Value) (L : List Pc) : Prop where
  o : w.ownsRow base 92 5 v L.length (Pcs L)
  m : ∀ p ∈ L, pcM base w p
theorem pcs'.below {base : Nat} {w w' : World} {v : Value} {L : List Pc} (h : pcs' base w v L) (k : Below w.heap.size w w') : pcs' base w' v L :=
  ⟨own_only (S := fun _ => False) h.o (Only.of_below k) (fun _ _ e => e), fun p hp => (h.m p hp).below k⟩
/-- Read as parts that come. -/
theorem pcs'.read {base : Nat} {w : World} {A : Option Addr} {n c : Nat} {L : List Pc} (h : pcs' base w (.slice A n c) L) : ptr w A (L.map Pc.pz) := by
  intro i z hz
  rw [List.getElem?_map] at hz
  obtain ⟨p, hp, rfl⟩ := Option.map_eq_some_iff.1 hz
  have hm := h.m p (List.mem_of_getElem? hp)
  rcases h.o.2 with ⟨e0, h0⟩ | ⟨g, c', cur, e1, hbl, hh, _⟩
  · have := (List.getElem?_eq_some_iff.1 hp).1
    omega
  · injection e1 with e1 _ _
    have e : ∀ j, (⟨g, 0, none⟩ : Addr).add j = ⟨g, j, none⟩ := fun j => by unfold Addr.add; split <;> simp_all
    have cc := World.ownsRow.cells (g := g) h.o (by rw [e1]; rfl)
    obtain ⟨g1, g2, g3, g4, g5⟩ := Pcs_get L i p hp
    have c1 := cc _ _ g1
    have c2 := cc _ _ g2
    have c3 := cc _ _ g3
    have c4 := cc _ _ g4
    have c5 := cc _ _ g5
    rw [e] at c1 c2 c3 c4 c5
    refine ⟨g, 0, e1, (World.ownsRow.lt h.o g (by rw [e1]; rfl)).2, ?_⟩
    rw [Nat.zero_add]
    have hk := hm.k
    refine ⟨⟨by show -9223372036854775808 ≤ (p.k : Int); omega, by show (p.k : Int) ≤ _; omega⟩, c1, c2, ⟨p.A, p.c, ?_, hm.o.read hm.n⟩, ⟨none, 0, c4, row_none _ _ _, by show (0 : Nat) ≤ _; omega⟩, ⟨none, 0, c5, row_none _ _ _, by show (0 : Nat) ≤ _; omega⟩⟩
    rw [c3]
    show some (Value.slice p.A p.os.length p.c) = some (Value.slice p.A (p.os.map Opx.int).length p.c)
    rw [List.length_map]
theorem infoPt : (Tryz.prog.info? 92).map (fun i => (i.zero, i.size, i.bytes)) = some (some (.agg #[.int .i64 0, .string ⟨#[]⟩, .slice none 0 0, .slice none 0 0, .slice none 0 0]), 5, 96) := by kernel_rfl
theorem pt_cells (w : World) (k : Int) (t : ByteArray) (A : Option Addr) (n c : Nat) (e : TypeId) : ∀ (j : Nat) (u : Value), ([.int .i64 k, .string t, .slice A n c, .slice none 0 0, .slice none 0 0] : List Value)[j]? = some u → (w.alloc (.cells #[.int .i64 k, .string t, .slice A n c, .slice none 0 0, .slice none 0 0] e)).cell? ((⟨w.heap.size, 0, none⟩ : Addr).add j) = some u := by
  intro j u hu
  rw [Go.WideShapes.add_plain, Nat.zero_add, Blk.cell (Blk.fresh w e _) j, ← hu]
  simp
theorem pt_one (k : Int) (t : ByteArray) (A : Option Addr) (n c : Nat) : ∀ u ∈ ([.int .i64 k, .string t, .slice A n c, .slice none 0 0, .slice none 0 0] : List Value), u.oneCell' = true := by
  intro u hu
  simp at hu
  rcases hu with rfl | rfl | rfl | rfl <;> rfl
/-- The parts of a text. -/
noncomputable def partsOf (l : List UInt8) : Nat → List (Nat × Nat) → List Sp
  | _, [] => []
  | i, x :: r => sp i ((l.drop x.1).take x.2) :: partsOf l (i + 1) r
/-- How many bytes a piece has. -/
def pn (z : Int) : Nat := if z < 1 ∨ 65535 < z then 65535 else z.toNat
theorem pn_le (z : Int) : 1 ≤ pn z ∧ pn z ≤ 65535 := by unfold pn; split <;> omega
theorem Sl_get {g : Nat} {L : List (Nat × Nat)} {j : Nat} {x : Nat × Nat} (h : L[j]? = some x) : (Sl g L)[j]? = some (.slice (some ⟨g, x.1, none⟩) x.2 x.2) := by unfold Sl; rw [List.getElem?_map, h]; rfl
theorem piece_string {w : World} {g N cap o m : Nat} {l : List UInt8} (h : rbuf w (.slice (some ⟨g, 0, none⟩) N cap) l) (hm : o + m ≤ l.length) :
    (convert 62 9 (.slice (some ⟨g, o, none⟩) m m)).run Tryz.prog w = .ok (.string ⟨((l.drop o).take m).toArray⟩) w := by
  have hl : ((l.drop o).take m).length = m := by rw [List.length_take, List.length_drop]; omega
  obtain ⟨b', cap', e, _, _, _, hc⟩ := h.block
  obtain rfl : g = b' := congrArg Addr.block (Option.some.inj (Value.slice.inj e).1)
  have h2 := run_convert_bytes_back (P := Tryz.prog) w 62 9 5 ⟨g, o, none⟩ m ((l.drop o).take m) Tryz.underlying62 Tryz.underlying5 Tryz.underlying9 (fun j hj => by
    have e3 : ((⟨g, o, none⟩ : Addr).add j) = ⟨g, o + j, none⟩ := by simp [Addr.add]
    rw [hl] at hj
    have hlt : o + j < l.length := by omega
    rw [e3, hc (o + j) hlt, List.getElem?_eq_getElem hlt, List.getElem_take, List.getElem_drop]
    rfl)
  rw [hl] at h2
  exact h2
theorem own_two {w : World} {b1 b2 s1 s2 n1 n2 : Nat} {e1 e2 : TypeId} {v1 v2 : Value} {x1 x2 : List Value} (h1 : w.ownsRow b1 e1 s1 v1 n1 x1) (h2 : w.ownsRow b2 e2 s2 v2 n2 x2) (hne : e1 ≠ e2) (i : Nat) (hi : v1.ownBlock = some i) (hi2 : v2.ownBlock = some i) : False := by
  rcases h2.2 with ⟨rfl, _⟩ | ⟨g', cap, cur, rfl, _, hh, _⟩
  · simp [Value.ownBlock] at hi2
  · obtain rfl : g' = i := by simpa [Value.ownBlock] using hi2
    exact own_apart (t := e2) (cs := cur) h1 hh hne g' hi rfl
set_option maxHeartbeats 4000000 in
set_option maxRecDepth 100000 in
theorem Split_any {s : ByteArray} {z : Int} (hs : s.size ≤ 1000000) (w : World) :
    Calls Tryz.prog 27 #[.string s, .int .i64 z] w fun e w' => ∃ A c L, e = .returned (.slice A L.length c) ∧ L.map Pc.sp = partsOf s.data.toList 0 (pcs (pn z) s.size) ∧ pcs' w.heap.size w' (.slice A L.length c) L ∧ Below w.heap.size w w' := by
  obtain ⟨l, hl⟩ : ∃ l, l = s.data.toList := ⟨_, rfl⟩
  have hsl : l.length = s.size := by rw [hl]; exact sz s
  rw [← hl]
  have HL := Lib.hid hl
  have HSL := Lib.hid hsl
  obtain ⟨i0, hi, hz0, hz1, hz2⟩ := info_parts infoPt
  have hcv := run_bytes_of_string (P := Tryz.prog) w 9 62 5 s Tryz.underlying9 Tryz.underlying62 Tryz.underlying5
  have hnew := rbuf_new w s
  have hge := grownCap_ge w s.size 0 5
  rw [← hl] at hnew
  generalize grownCap w s.size 0 5 = cap at hcv hnew hge
  obtain ⟨w3, hw3⟩ : ∃ w3, w3 = w.drew.alloc (.cells (bytesRow s cap) 5 ((bytesRow s cap).size, (bytesRow s cap).size + 1)) := ⟨_, rfl⟩
  rw [← hw3] at hcv hnew
  have B3 : Hid (Below w.heap.size w w3) := Lib.hid (by rw [hw3]; exact ((Below.refl _ w).drew).alloc (Nat.le_refl _) _)
  have HNW := Lib.hid hnew
  obtain ⟨g, hg⟩ : ∃ g, g = w.heap.size := ⟨_, rfl⟩
  rw [← hg] at hcv HNW
  obtain ⟨n, hn⟩ : ∃ n, n = pn z := ⟨_, rfl⟩
  have hnle := pn_le z
  rw [← hn] at hnle ⊢
  obtain ⟨Q, hQ⟩ : ∃ Q, Q = pcs n s.size := ⟨_, rfl⟩
  rw [← hQ]
  have HQ := Lib.hid hQ
  have HPC := Lib.hid (pieces_any (w := w3) (g := g) (cap := cap) (n := n) (N := s.size) (by omega) hs hnle.1 hnle.2)
  rw [← hQ] at HPC
  have HQI : Hid (∀ x ∈ Q, x.1 + x.2 ≤ l.length) := Lib.hid (fun x hx => by rw [hQ] at hx; have := (pcsF_in n s.size 0 s.size x hx).2; rw [hsl]; omega)
  have HQN : Hid (Q.length ≤ 1000001) := Lib.hid (by rw [hQ]; have := pcsF_len n s.size 0 s.size; unfold pcs; omega)
  have HG := Lib.hid hg
  clear hl hsl hnew hge hQ hw3 hg
  obtain ⟨y, hy⟩ : ∃ y : Int, y = (n : Int) := ⟨_, rfl⟩
  rw [← hy] at HPC
  have hy65 : z < 1 ∨ 65535 < z → y = 65535 := fun h => by rw [hy, hn]; unfold pn; rw [if_pos h]; rfl
  have hyz : ¬ z < 1 → ¬ 65535 < z → y = z := fun h1 h2 => by rw [hy, hn]; unfold pn; rw [if_neg (by omega)]; omega
  have HQP : Hid (0 < Q.length) := Lib.hid (by rw [HQ.out]; exact pcsF_pos _ _ _ _)
  clear hn hnle hy HQ
  rcases (show z < 1 ∨ (¬ z < 1 ∧ 65535 < z) ∨ (¬ z < 1 ∧ ¬ 65535 < z) by omega) with h | ⟨h, h'⟩ | ⟨h, h'⟩
  · have hy := hy65 (.inl h)
    subst hy
    clear hy65 hyz
    go_enter Tryz.func27, Tryz.ntmps27
    go_wp2_with fail
    refine HPC.out.mono ?_
    rintro e w4 ⟨A1, k1, c1, rfl, hk1, ho1, hb1⟩
    have HK1 := Lib.hid hk1
    have HR1 := Lib.hid ho1
    have HB1 := Lib.hid (grows B3.out hb1)
    have HNW1 := Lib.hid (HNW.out.below hb1)
    obtain ⟨b1, hb1A⟩ : ∃ b1, A1 = some ⟨b1, 0, none⟩ := by
      rcases ho1.2 with ⟨_, h0⟩ | ⟨g', cap', cur, e1, _⟩
      · have := HQP.out; omega
      · exact ⟨g', by injection e1⟩
    subst hb1A
    clear hk1 ho1 hb1 hcv
    go_wp2
    go_loopw [5, 19] (fun s5 s19 wr => ∃ (j k c : Nat) (A : Option Addr) (L : List Pc), s5 = .slice A k c ∧ s19 = .int .i64 (j : Int) ∧ j ≤ k1 ∧ Hid (k = L.length ∧ k = j) ∧ Hid (pcs' w.heap.size wr (.slice A k c) L) ∧ Hid (partsOf l 0 Q = L.map Pc.sp ++ partsOf l j (Q.drop j)) ∧ Hid (wr.ownsRow w3.heap.size 62 1 (.slice (some ⟨b1, 0, none⟩) k1 c1) k1 (Sl g Q)) ∧ Hid (rbuf wr (.slice (some ⟨g, 0, none⟩) s.size cap) l) ∧ Hid (Below w.heap.size w wr)) (fun _ s19 _ => k1 - (intOf s19).toNat)
    case atStart => exact ⟨0, 0, 0, none, [], rfl, rfl, Nat.zero_le _, Lib.hid ⟨rfl, rfl⟩, Lib.hid ⟨World.ownsRow_nil _ _ _ _, fun p h => by cases h⟩, Lib.hid rfl, HR1, HNW1, HB1⟩
    case round =>
      obtain ⟨j, k, c, A, L, rfl, rfl, hj, HKJ, HPS, HPO, HRW, HBF, HB⟩ := hrel
      by_cases hjk : j < k1
      · have hjk' : (j : Int) < (k1 : Int) := by omega
        have hj0 : (0 : Int) ≤ (j : Int) := by omega
        have hk1b : (k1 : Int) ≤ 1000001 := by have h1 := HK1.out; have h2 := HQN.out; omega
        have hjQ : j < Q.length := by have := HK1.out; omega
        obtain ⟨x, hx⟩ : ∃ x, Q[j]? = some x := ⟨_, List.getElem?_eq_getElem hjQ⟩
        have hxl := HQI.out x (List.mem_of_getElem? hx)
        have hcell : wr.cell? ⟨b1, j, none⟩ = some (.slice (some ⟨g, x.1, none⟩) x.2 x.2) := by
          have h := World.ownsRow.cells (g := b1) HRW.out rfl j _ (Sl_get hx)
          have e : (⟨b1, 0, none⟩ : Addr).add j = ⟨b1, j, none⟩ := by unfold Addr.add; split <;> simp_all
          rw [e] at h; exact h
        have hcs := piece_string HBF.out hxl
        obtain ⟨ps, hps⟩ : ∃ ps : ByteArray, ps = ⟨((l.drop x.1).take x.2).toArray⟩ := ⟨_, rfl⟩
        have hpsz : ps.size ≤ 1000000 := by
          rw [hps]; show Array.size _ ≤ _
          rw [List.size_toArray, List.length_take, List.length_drop]
          have := HSL.out; omega
        have HPD : Hid (ps.data.toList = (l.drop x.1).take x.2) := Lib.hid (by rw [hps])
        rw [← hps] at hcs
        have HPT := Lib.hid (partOf_any (i := j) (s := ps) (by have := HQN.out; omega) hpsz wr)
        have HDR : Hid (Q.drop j = x :: Q.drop (j + 1)) := Lib.hid (by
          obtain ⟨h1, h2⟩ := List.getElem?_eq_some_iff.1 hx
          rw [List.drop_eq_getElem_cons h1, h2])
        have HJK := Lib.hid hjk
        obtain ⟨xo, hxo⟩ : ∃ xo, xo = x.1 := ⟨_, rfl⟩
        obtain ⟨xn, hxn⟩ : ∃ xn, xn = x.2 := ⟨_, rfl⟩
        rw [← hxo, ← hxn] at hcell hcs
        have HXO : Hid (xo = x.1 ∧ xn = x.2) := Lib.hid ⟨hxo, hxn⟩
        clear hx hxl hps hpsz hjk hxo hxn hjQ
        go_wp2_with fail
        refine HPT.out.mono ?_
        rintro e w5 ⟨p, rfl, hsp, hpm, hb5⟩
        have HSP : Hid (p.sp = sp j ((l.drop x.1).take x.2)) := Lib.hid (by rw [hsp, HPD.out])
        have HPM := Lib.hid (hpm.lower HB.out.size)
        have HB5 := Lib.hid (grows HB.out hb5)
        have HPS5 := Lib.hid (HPS.out.below hb5)
        have HRW5 : Hid (w5.ownsRow w3.heap.size 62 1 (.slice (some ⟨b1, 0, none⟩) k1 c1) k1 (Sl g Q)) := Lib.hid (own_only (S := fun _ => False) HRW.out (Only.of_below hb5) (fun _ _ e => e))
        have HBF5 := Lib.hid (HBF.out.below hb5)
        clear hsp hpm hb5 hcs hcell HPT
        obtain ⟨pk, hpk⟩ : ∃ pk : Int, pk = (p.k : Int) := ⟨_, rfl⟩
        obtain ⟨pt, hpt⟩ : ∃ pt, pt = p.t := ⟨_, rfl⟩
        obtain ⟨pA, hpA⟩ : ∃ pA, pA = p.A := ⟨_, rfl⟩
        obtain ⟨pm, hpm⟩ : ∃ pm, pm = p.os.length := ⟨_, rfl⟩
        obtain ⟨pc, hpc⟩ : ∃ pc, pc = p.c := ⟨_, rfl⟩
        have HCE : Hid (p.cells = [.int .i64 pk, .string pt, .slice pA pm pc, .slice none 0 0, .slice none 0 0]) := Lib.hid (by rw [hpk, hpt, hpA, hpm, hpc]; rfl)
        rw [← hpk, ← hpt, ← hpA, ← hpm, ← hpc]
        clear hpk hpt hpA hpm hpc
        obtain ⟨w6, hw6⟩ : ∃ w6, w6 = w5.alloc (.cells #[.int .i64 pk, .string pt, .slice pA pm pc, .slice none 0 0, .slice none 0 0] 92) := ⟨_, rfl⟩
        have B6 : Hid (Below w5.heap.size w5 w6) := Lib.hid (by rw [hw6]; exact below_alloc _ _)
        have HNC : Hid (∀ (j : Nat) (u : Value), ([.int .i64 pk, .string pt, .slice pA pm pc, .slice none 0 0, .slice none 0 0] : List Value)[j]? = some u → w6.cell? ((⟨w5.heap.size, 0, none⟩ : Addr).add j) = some u) := Lib.hid (by rw [hw6]; exact pt_cells _ _ _ _ _ _ _)
        have BB6 := Lib.hid (grows HB5.out B6.out)
        have HPS6 := Lib.hid (HPS5.out.below B6.out)
        have HPM6 := Lib.hid ((HPM.out.below B6.out))
        have HRW6 : Hid (w6.ownsRow w3.heap.size 62 1 (.slice (some ⟨b1, 0, none⟩) k1 c1) k1 (Sl g Q)) := Lib.hid (own_only (S := fun _ => False) HRW5.out (Only.of_below B6.out) (fun _ _ e => e))
        have HBF6 := Lib.hid (HBF5.out.below B6.out)
        have HOW6 : Hid (w6.ownsRow w.heap.size 92 5 (.slice A k c) k (Pcs L)) := Lib.hid (by have h := HPS6.out.o; rw [← HKJ.out.1] at h; exact h)
        have HK9 : Hid (k + 1 ≤ 1000001) := Lib.hid (by have h1 := HKJ.out.2; have h2 := HK1.out; have h3 := HQN.out; have h4 := HJK.out; omega)
        have H5S := Lib.hid B6.out.size
        go_wp2_with (at_builtin; rw [← hw6]; refine wpList_append_own_at _ rfl _ _ 48 rfl w.heap.size 92 i0 (.agg #[.int .i64 0, .string ⟨#[]⟩, .slice none 0 0, .slice none 0 0, .slice none 0 0]) 5 96 Tryz.underlying48 hi hz0 hz1 hz2 rfl (by decide) _ k (Pcs L) rfl HOW6.out ⟨w5.heap.size, 0, none⟩ 1 1 [.int .i64 pk, .string pt, .slice pA pm pc, .slice none 0 0, .slice none 0 0] rfl rfl HNC.out (pt_one _ _ _ _ _) ?a3 ?a4 ?a5 ?_)
        case a3 => unfold maxLen; have := HK9.out; omega
        case a4 => have := HK9.out; omega
        case a5 => first | exact BB6.out.size | (have h1 := HB5.out.size; have h2 := BB6.out.size; omega)
        intro v3 w7 hown hgrow _ _
        have O7 : Hid (Only (fun i => (Value.slice A k c).ownBlock = some i) w6 w7) := Lib.hid (by first | exact (Only.refl _ w6).grown hgrow (fun i hi _ => hi) | (rw [← hw6] at hgrow; exact (Only.refl _ w6).grown hgrow (fun i hi _ => hi)))
        have B7 : Hid (Below w.heap.size w w7) := Lib.hid (O7.out.below BB6.out BB6.out.size (fun i hi => (HOW6.out.lt i hi).1))
        obtain ⟨A7, c7, hv7⟩ : ∃ A7 c7, v3 = .slice A7 (k + 1) c7 := by
          rcases hown.2 with ⟨rfl, h0⟩ | ⟨g, cap, _, rfl, _⟩
          · omega
          · exact ⟨_, cap, rfl⟩
        subst hv7
        obtain ⟨k', hk'⟩ : ∃ k', k' = k + 1 := ⟨_, rfl⟩
        have HK7 : Hid (k' = (L ++ [p]).length ∧ k' = j + 1) := Lib.hid ⟨by rw [hk', List.length_append, HKJ.out.1]; rfl, by rw [hk', HKJ.out.2]⟩
        have PS7 : Hid (pcs' w.heap.size w7 (.slice A7 k' c7) (L ++ [p])) := Lib.hid ⟨by rw [Pcs_snoc, HCE.out, ← HK7.out.1, hk']; exact hown, fun q hq => by
          have hmm : ∀ q, pcM w.heap.size w6 q → pcM w.heap.size w7 q := fun q h => ⟨h.o.only O7.out (fun i hi e => own_two h.o HOW6.out (by decide) i hi e), h.n, h.l, h.k⟩
          rcases List.mem_append.1 hq with h | h
          · exact hmm q (HPS6.out.m q h)
          · obtain rfl : q = p := by simpa using h
            exact hmm q HPM6.out⟩
        have HRW7 : Hid (w7.ownsRow w3.heap.size 62 1 (.slice (some ⟨b1, 0, none⟩) k1 c1) k1 (Sl g Q)) := Lib.hid (own_only HRW6.out O7.out (fun i hi e => own_two HRW6.out HOW6.out (by decide) i hi e))
        have HBF7 : Hid (rbuf w7 (.slice (some ⟨g, 0, none⟩) s.size cap) l) := Lib.hid (HBF6.out.only O7.out (fun i hi e => by
          rcases HOW6.out.2 with ⟨e0, _⟩ | ⟨g9, cap9, cur9, e9, _, hh9, _⟩
          · rw [e0] at e; cases e
          · have h9 : g9 = i := by rw [e9] at e; simpa [Value.ownBlock] using e
            subst h9
            exact HBF6.out.apart (t := 92) (cs := cur9) hh9 (by decide) _ hi rfl))
        have HPO7 : Hid (partsOf l 0 Q = (L ++ [p]).map Pc.sp ++ partsOf l (j + 1) (Q.drop (j + 1))) := Lib.hid (by
          rw [HPO.out, HDR.out, List.map_append, List.append_assoc]
          show _ ++ (sp j _ :: partsOf l (j + 1) _) = _
          rw [← HSP.out]; rfl)
        rw [← hk']
        clear hown hgrow hk' hw6
        go_wp2
        go_roundw
        case rel => exact ⟨j + 1, k', c7, A7, L ++ [p], rfl, by first | rfl | go_num, by have := HJK.out; omega, HK7, PS7, HPO7, HRW7, HBF7, B7⟩
        case measure => have h1 := HJK.out; have h2 := HK1.out; have h3 := HQN.out; simp [intOf]; omega
      · have hjk' : ¬ (j : Int) < (k1 : Int) := by omega
        have HE : Hid (L.map Pc.sp = partsOf l 0 Q) := Lib.hid (by
          rw [HPO.out, List.drop_eq_nil_of_le (by have := HK1.out; omega)]
          show _ = _ ++ []
          rw [List.append_nil])
        clear hjk
        go_wp2
        go_ret
        exact ⟨A, c, L, by rw [HKJ.out.1]; rfl, HE.out, by have h := HPS.out; rw [HKJ.out.1] at h; exact h, HB.out⟩
  · have hy := hy65 (.inr h')
    subst hy
    clear hy65 hyz
    go_enter Tryz.func27, Tryz.ntmps27
    go_wp2_with fail
    refine HPC.out.mono ?_
    rintro e w4 ⟨A1, k1, c1, rfl, hk1, ho1, hb1⟩
    have HK1 := Lib.hid hk1
    have HR1 := Lib.hid ho1
    have HB1 := Lib.hid (grows B3.out hb1)
    have HNW1 := Lib.hid (HNW.out.below hb1)
    obtain ⟨b1, hb1A⟩ : ∃ b1, A1 = some ⟨b1, 0, none⟩ := by
      rcases ho1.2 with ⟨_, h0⟩ | ⟨g', cap', cur, e1, _⟩
      · have := HQP.out; omega
      · exact ⟨g', by injection e1⟩
    subst hb1A
    clear hk1 ho1 hb1 hcv
    go_wp2
    go_loopw [5, 19] (fun s5 s19 wr => ∃ (j k c : Nat) (A : Option Addr) (L : List Pc), s5 = .slice A k c ∧ s19 = .int .i64 (j : Int) ∧ j ≤ k1 ∧ Hid (k = L.length ∧ k = j) ∧ Hid (pcs' w.heap.size wr (.slice A k c) L) ∧ Hid (partsOf l 0 Q = L.map Pc.sp ++ partsOf l j (Q.drop j)) ∧ Hid (wr.ownsRow w3.heap.size 62 1 (.slice (some ⟨b1, 0, none⟩) k1 c1) k1 (Sl g Q)) ∧ Hid (rbuf wr (.slice (some ⟨g, 0, none⟩) s.size cap) l) ∧ Hid (Below w.heap.size w wr)) (fun _ s19 _ => k1 - (intOf s19).toNat)
    case atStart => exact ⟨0, 0, 0, none, [], rfl, rfl, Nat.zero_le _, Lib.hid ⟨rfl, rfl⟩, Lib.hid ⟨World.ownsRow_nil _ _ _ _, fun p h => by cases h⟩, Lib.hid rfl, HR1, HNW1, HB1⟩
    case round =>
      obtain ⟨j, k, c, A, L, rfl, rfl, hj, HKJ, HPS, HPO, HRW, HBF, HB⟩ := hrel
      by_cases hjk : j < k1
      · have hjk' : (j : Int) < (k1 : Int) := by omega
        have hj0 : (0 : Int) ≤ (j : Int) := by omega
        have hk1b : (k1 : Int) ≤ 1000001 := by have h1 := HK1.out; have h2 := HQN.out; omega
        have hjQ : j < Q.length := by have := HK1.out; omega
        obtain ⟨x, hx⟩ : ∃ x, Q[j]? = some x := ⟨_, List.getElem?_eq_getElem hjQ⟩
        have hxl := HQI.out x (List.mem_of_getElem? hx)
        have hcell : wr.cell? ⟨b1, j, none⟩ = some (.slice (some ⟨g, x.1, none⟩) x.2 x.2) := by
          have h := World.ownsRow.cells (g := b1) HRW.out rfl j _ (Sl_get hx)
          have e : (⟨b1, 0, none⟩ : Addr).add j = ⟨b1, j, none⟩ := by unfold Addr.add; split <;> simp_all
          rw [e] at h; exact h
        have hcs := piece_string HBF.out hxl
        obtain ⟨ps, hps⟩ : ∃ ps : ByteArray, ps = ⟨((l.drop x.1).take x.2).toArray⟩ := ⟨_, rfl⟩
        have hpsz : ps.size ≤ 1000000 := by
          rw [hps]; show Array.size _ ≤ _
          rw [List.size_toArray, List.length_take, List.length_drop]
          have := HSL.out; omega
        have HPD : Hid (ps.data.toList = (l.drop x.1).take x.2) := Lib.hid (by rw [hps])
        rw [← hps] at hcs
        have HPT := Lib.hid (partOf_any (i := j) (s := ps) (by have := HQN.out; omega) hpsz wr)
        have HDR : Hid (Q.drop j = x :: Q.drop (j + 1)) := Lib.hid (by
          obtain ⟨h1, h2⟩ := List.getElem?_eq_some_iff.1 hx
          rw [List.drop_eq_getElem_cons h1, h2])
        have HJK := Lib.hid hjk
        obtain ⟨xo, hxo⟩ : ∃ xo, xo = x.1 := ⟨_, rfl⟩
        obtain ⟨xn, hxn⟩ : ∃ xn, xn = x.2 := ⟨_, rfl⟩
        rw [← hxo, ← hxn] at hcell hcs
        have HXO : Hid (xo = x.1 ∧ xn = x.2) := Lib.hid ⟨hxo, hxn⟩
        clear hx hxl hps hpsz hjk hxo hxn hjQ
        go_wp2_with fail
        refine HPT.out.mono ?_
        rintro e w5 ⟨p, rfl, hsp, hpm, hb5⟩
        have HSP : Hid (p.sp = sp j ((l.drop x.1).take x.2)) := Lib.hid (by rw [hsp, HPD.out])
        have HPM := Lib.hid (hpm.lower HB.out.size)
        have HB5 := Lib.hid (grows HB.out hb5)
        have HPS5 := Lib.hid (HPS.out.below hb5)
        have HRW5 : Hid (w5.ownsRow w3.heap.size 62 1 (.slice (some ⟨b1, 0, none⟩) k1 c1) k1 (Sl g Q)) := Lib.hid (own_only (S := fun _ => False) HRW.out (Only.of_below hb5) (fun _ _ e => e))
        have HBF5 := Lib.hid (HBF.out.below hb5)
        clear hsp hpm hb5 hcs hcell HPT
        obtain ⟨pk, hpk⟩ : ∃ pk : Int, pk = (p.k : Int) := ⟨_, rfl⟩
        obtain ⟨pt, hpt⟩ : ∃ pt, pt = p.t := ⟨_, rfl⟩
        obtain ⟨pA, hpA⟩ : ∃ pA, pA = p.A := ⟨_, rfl⟩
        obtain ⟨pm, hpm⟩ : ∃ pm, pm = p.os.length := ⟨_, rfl⟩
        obtain ⟨pc, hpc⟩ : ∃ pc, pc = p.c := ⟨_, rfl⟩
        have HCE : Hid (p.cells = [.int .i64 pk, .string pt, .slice pA pm pc, .slice none 0 0, .slice none 0 0]) := Lib.hid (by rw [hpk, hpt, hpA, hpm, hpc]; rfl)
        rw [← hpk, ← hpt, ← hpA, ← hpm, ← hpc]
        clear hpk hpt hpA hpm hpc
        obtain ⟨w6, hw6⟩ : ∃ w6, w6 = w5.alloc (.cells #[.int .i64 pk, .string pt, .slice pA pm pc, .slice none 0 0, .slice none 0 0] 92) := ⟨_, rfl⟩
        have B6 : Hid (Below w5.heap.size w5 w6) := Lib.hid (by rw [hw6]; exact below_alloc _ _)
        have HNC : Hid (∀ (j : Nat) (u : Value), ([.int .i64 pk, .string pt, .slice pA pm pc, .slice none 0 0, .slice none 0 0] : List Value)[j]? = some u → w6.cell? ((⟨w5.heap.size, 0, none⟩ : Addr).add j) = some u) := Lib.hid (by rw [hw6]; exact pt_cells _ _ _ _ _ _ _)
        have BB6 := Lib.hid (grows HB5.out B6.out)
        have HPS6 := Lib.hid (HPS5.out.below B6.out)
        have HPM6 := Lib.hid ((HPM.out.below B6.out))
        have HRW6 : Hid (w6.ownsRow w3.heap.size 62 1 (.slice (some ⟨b1, 0, none⟩) k1 c1) k1 (Sl g Q)) := Lib.hid (own_only (S := fun _ => False) HRW5.out (Only.of_below B6.out) (fun _ _ e => e))
        have HBF6 := Lib.hid (HBF5.out.below B6.out)
        have HOW6 : Hid (w6.ownsRow w.heap.size 92 5 (.slice A k c) k (Pcs L)) := Lib.hid (by have h := HPS6.out.o; rw [← HKJ.out.1] at h; exact h)
        have HK9 : Hid (k + 1 ≤ 1000001) := Lib.hid (by have h1 := HKJ.out.2; have h2 := HK1.out; have h3 := HQN.out; have h4 := HJK.out; omega)
        have H5S := Lib.hid B6.out.size
        go_wp2_with (at_builtin; rw [← hw6]; refine wpList_append_own_at _ rfl _ _ 48 rfl w.heap.size 92 i0 (.agg #[.int .i64 0, .string ⟨#[]⟩, .slice none 0 0, .slice none 0 0, .slice none 0 0]) 5 96 Tryz.underlying48 hi hz0 hz1 hz2 rfl (by decide) _ k (Pcs L) rfl HOW6.out ⟨w5.heap.size, 0, none⟩ 1 1 [.int .i64 pk, .string pt, .slice pA pm pc, .slice none 0 0, .slice none 0 0] rfl rfl HNC.out (pt_one _ _ _ _ _) ?a3 ?a4 ?a5 ?_)
        case a3 => unfold maxLen; have := HK9.out; omega
        case a4 => have := HK9.out; omega
        case a5 => first | exact BB6.out.size | (have h1 := HB5.out.size; have h2 := BB6.out.size; omega)
        intro v3 w7 hown hgrow _ _
        have O7 : Hid (Only (fun i => (Value.slice A k c).ownBlock = some i) w6 w7) := Lib.hid (by first | exact (Only.refl _ w6).grown hgrow (fun i hi _ => hi) | (rw [← hw6] at hgrow; exact (Only.refl _ w6).grown hgrow (fun i hi _ => hi)))
        have B7 : Hid (Below w.heap.size w w7) := Lib.hid (O7.out.below BB6.out BB6.out.size (fun i hi => (HOW6.out.lt i hi).1))
        obtain ⟨A7, c7, hv7⟩ : ∃ A7 c7, v3 = .slice A7 (k + 1) c7 := by
          rcases hown.2 with ⟨rfl, h0⟩ | ⟨g, cap, _, rfl, _⟩
          · omega
          · exact ⟨_, cap, rfl⟩
        subst hv7
        obtain ⟨k', hk'⟩ : ∃ k', k' = k + 1 := ⟨_, rfl⟩
        have HK7 : Hid (k' = (L ++ [p]).length ∧ k' = j + 1) := Lib.hid ⟨by rw [hk', List.length_append, HKJ.out.1]; rfl, by rw [hk', HKJ.out.2]⟩
        have PS7 : Hid (pcs' w.heap.size w7 (.slice A7 k' c7) (L ++ [p])) := Lib.hid ⟨by rw [Pcs_snoc, HCE.out, ← HK7.out.1, hk']; exact hown, fun q hq => by
          have hmm : ∀ q, pcM w.heap.size w6 q → pcM w.heap.size w7 q := fun q h => ⟨h.o.only O7.out (fun i hi e => own_two h.o HOW6.out (by decide) i hi e), h.n, h.l, h.k⟩
          rcases List.mem_append.1 hq with h | h
          · exact hmm q (HPS6.out.m q h)
          · obtain rfl : q = p := by simpa using h
            exact hmm q HPM6.out⟩
        have HRW7 : Hid (w7.ownsRow w3.heap.size 62 1 (.slice (some ⟨b1, 0, none⟩) k1 c1) k1 (Sl g Q)) := Lib.hid (own_only HRW6.out O7.out (fun i hi e => own_two HRW6.out HOW6.out (by decide) i hi e))
        have HBF7 : Hid (rbuf w7 (.slice (some ⟨g, 0, none⟩) s.size cap) l) := Lib.hid (HBF6.out.only O7.out (fun i hi e => by
          rcases HOW6.out.2 with ⟨e0, _⟩ | ⟨g9, cap9, cur9, e9, _, hh9, _⟩
          · rw [e0] at e; cases e
          · have h9 : g9 = i := by rw [e9] at e; simpa [Value.ownBlock] using e
            subst h9
            exact HBF6.out.apart (t := 92) (cs := cur9) hh9 (by decide) _ hi rfl))
        have HPO7 : Hid (partsOf l 0 Q = (L ++ [p]).map Pc.sp ++ partsOf l (j + 1) (Q.drop (j + 1))) := Lib.hid (by
          rw [HPO.out, HDR.out, List.map_append, List.append_assoc]
          show _ ++ (sp j _ :: partsOf l (j + 1) _) = _
          rw [← HSP.out]; rfl)
        rw [← hk']
        clear hown hgrow hk' hw6
        go_wp2
        go_roundw
        case rel => exact ⟨j + 1, k', c7, A7, L ++ [p], rfl, by first | rfl | go_num, by have := HJK.out; omega, HK7, PS7, HPO7, HRW7, HBF7, B7⟩
        case measure => have h1 := HJK.out; have h2 := HK1.out; have h3 := HQN.out; simp [intOf]; omega
      · have hjk' : ¬ (j : Int) < (k1 : Int) := by omega
        have HE : Hid (L.map Pc.sp = partsOf l 0 Q) := Lib.hid (by
          rw [HPO.out, List.drop_eq_nil_of_le (by have := HK1.out; omega)]
          show _ = _ ++ []
          rw [List.append_nil])
        clear hjk
        go_wp2
        go_ret
        exact ⟨A, c, L, by rw [HKJ.out.1]; rfl, HE.out, by have h := HPS.out; rw [HKJ.out.1] at h; exact h, HB.out⟩
  · have hy := hyz h h'
    subst hy
    clear hy65 hyz
    go_enter Tryz.func27, Tryz.ntmps27
    go_wp2_with fail
    refine HPC.out.mono ?_
    rintro e w4 ⟨A1, k1, c1, rfl, hk1, ho1, hb1⟩
    have HK1 := Lib.hid hk1
    have HR1 := Lib.hid ho1
    have HB1 := Lib.hid (grows B3.out hb1)
    have HNW1 := Lib.hid (HNW.out.below hb1)
    obtain ⟨b1, hb1A⟩ : ∃ b1, A1 = some ⟨b1, 0, none⟩ := by
      rcases ho1.2 with ⟨_, h0⟩ | ⟨g', cap', cur, e1, _⟩
      · have := HQP.out; omega
      · exact ⟨g', by injection e1⟩
    subst hb1A
    clear hk1 ho1 hb1 hcv
    go_wp2
    go_loopw [5, 19] (fun s5 s19 wr => ∃ (j k c : Nat) (A : Option Addr) (L : List Pc), s5 = .slice A k c ∧ s19 = .int .i64 (j : Int) ∧ j ≤ k1 ∧ Hid (k = L.length ∧ k = j) ∧ Hid (pcs' w.heap.size wr (.slice A k c) L) ∧ Hid (partsOf l 0 Q = L.map Pc.sp ++ partsOf l j (Q.drop j)) ∧ Hid (wr.ownsRow w3.heap.size 62 1 (.slice (some ⟨b1, 0, none⟩) k1 c1) k1 (Sl g Q)) ∧ Hid (rbuf wr (.slice (some ⟨g, 0, none⟩) s.size cap) l) ∧ Hid (Below w.heap.size w wr)) (fun _ s19 _ => k1 - (intOf s19).toNat)
    case atStart => exact ⟨0, 0, 0, none, [], rfl, rfl, Nat.zero_le _, Lib.hid ⟨rfl, rfl⟩, Lib.hid ⟨World.ownsRow_nil _ _ _ _, fun p h => by cases h⟩, Lib.hid rfl, HR1, HNW1, HB1⟩
    case round =>
      obtain ⟨j, k, c, A, L, rfl, rfl, hj, HKJ, HPS, HPO, HRW, HBF, HB⟩ := hrel
      by_cases hjk : j < k1
      · have hjk' : (j : Int) < (k1 : Int) := by omega
        have hj0 : (0 : Int) ≤ (j : Int) := by omega
        have hk1b : (k1 : Int) ≤ 1000001 := by have h1 := HK1.out; have h2 := HQN.out; omega
        have hjQ : j < Q.length := by have := HK1.out; omega
        obtain ⟨x, hx⟩ : ∃ x, Q[j]? = some x := ⟨_, List.getElem?_eq_getElem hjQ⟩
        have hxl := HQI.out x (List.mem_of_getElem? hx)
        have hcell : wr.cell? ⟨b1, j, none⟩ = some (.slice (some ⟨g, x.1, none⟩) x.2 x.2) := by
          have h := World.ownsRow.cells (g := b1) HRW.out rfl j _ (Sl_get hx)
          have e : (⟨b1, 0, none⟩ : Addr).add j = ⟨b1, j, none⟩ := by unfold Addr.add; split <;> simp_all
          rw [e] at h; exact h
        have hcs := piece_string HBF.out hxl
        obtain ⟨ps, hps⟩ : ∃ ps : ByteArray, ps = ⟨((l.drop x.1).take x.2).toArray⟩ := ⟨_, rfl⟩
        have hpsz : ps.size ≤ 1000000 := by
          rw [hps]; show Array.size _ ≤ _
          rw [List.size_toArray, List.length_take, List.length_drop]
          have := HSL.out; omega
        have HPD : Hid (ps.data.toList = (l.drop x.1).take x.2) := Lib.hid (by rw [hps])
        rw [← hps] at hcs
        have HPT := Lib.hid (partOf_any (i := j) (s := ps) (by have := HQN.out; omega) hpsz wr)
        have HDR : Hid (Q.drop j = x :: Q.drop (j + 1)) := Lib.hid (by
          obtain ⟨h1, h2⟩ := List.getElem?_eq_some_iff.1 hx
          rw [List.drop_eq_getElem_cons h1, h2])
        have HJK := Lib.hid hjk
        obtain ⟨xo, hxo⟩ : ∃ xo, xo = x.1 := ⟨_, rfl⟩
        obtain ⟨xn, hxn⟩ : ∃ xn, xn = x.2 := ⟨_, rfl⟩
        rw [← hxo, ← hxn] at hcell hcs
        have HXO : Hid (xo = x.1 ∧ xn = x.2) := Lib.hid ⟨hxo, hxn⟩
        clear hx hxl hps hpsz hjk hxo hxn hjQ
        go_wp2_with fail
        refine HPT.out.mono ?_
        rintro e w5 ⟨p, rfl, hsp, hpm, hb5⟩
        have HSP : Hid (p.sp = sp j ((l.drop x.1).take x.2)) := Lib.hid (by rw [hsp, HPD.out])
        have HPM := Lib.hid (hpm.lower HB.out.size)
        have HB5 := Lib.hid (grows HB.out hb5)
        have HPS5 := Lib.hid (HPS.out.below hb5)
        have HRW5 : Hid (w5.ownsRow w3.heap.size 62 1 (.slice (some ⟨b1, 0, none⟩) k1 c1) k1 (Sl g Q)) := Lib.hid (own_only (S := fun _ => False) HRW.out (Only.of_below hb5) (fun _ _ e => e))
        have HBF5 := Lib.hid (HBF.out.below hb5)
        clear hsp hpm hb5 hcs hcell HPT
        obtain ⟨pk, hpk⟩ : ∃ pk : Int, pk = (p.k : Int) := ⟨_, rfl⟩
        obtain ⟨pt, hpt⟩ : ∃ pt, pt = p.t := ⟨_, rfl⟩
        obtain ⟨pA, hpA⟩ : ∃ pA, pA = p.A := ⟨_, rfl⟩
        obtain ⟨pm, hpm⟩ : ∃ pm, pm = p.os.length := ⟨_, rfl⟩
        obtain ⟨pc, hpc⟩ : ∃ pc, pc = p.c := ⟨_, rfl⟩
        have HCE : Hid (p.cells = [.int .i64 pk, .string pt, .slice pA pm pc, .slice none 0 0, .slice none 0 0]) := Lib.hid (by rw [hpk, hpt, hpA, hpm, hpc]; rfl)
        rw [← hpk, ← hpt, ← hpA, ← hpm, ← hpc]
        clear hpk hpt hpA hpm hpc
        obtain ⟨w6, hw6⟩ : ∃ w6, w6 = w5.alloc (.cells #[.int .i64 pk, .string pt, .slice pA pm pc, .slice none 0 0, .slice none 0 0] 92) := ⟨_, rfl⟩
        have B6 : Hid (Below w5.heap.size w5 w6) := Lib.hid (by rw [hw6]; exact below_alloc _ _)
        have HNC : Hid (∀ (j : Nat) (u : Value), ([.int .i64 pk, .string pt, .slice pA pm pc, .slice none 0 0, .slice none 0 0] : List Value)[j]? = some u → w6.cell? ((⟨w5.heap.size, 0, none⟩ : Addr).add j) = some u) := Lib.hid (by rw [hw6]; exact pt_cells _ _ _ _ _ _ _)
        have BB6 := Lib.hid (grows HB5.out B6.out)
        have HPS6 := Lib.hid (HPS5.out.below B6.out)
        have HPM6 := Lib.hid ((HPM.out.below B6.out))
        have HRW6 : Hid (w6.ownsRow w3.heap.size 62 1 (.slice (some ⟨b1, 0, none⟩) k1 c1) k1 (Sl g Q)) := Lib.hid (own_only (S := fun _ => False) HRW5.out (Only.of_below B6.out) (fun _ _ e => e))
        have HBF6 := Lib.hid (HBF5.out.below B6.out)
        have HOW6 : Hid (w6.ownsRow w.heap.size 92 5 (.slice A k c) k (Pcs L)) := Lib.hid (by have h := HPS6.out.o; rw [← HKJ.out.1] at h; exact h)
        have HK9 : Hid (k + 1 ≤ 1000001) := Lib.hid (by have h1 := HKJ.out.2; have h2 := HK1.out; have h3 := HQN.out; have h4 := HJK.out; omega)
        have H5S := Lib.hid B6.out.size
        go_wp2_with (at_builtin; rw [← hw6]; refine wpList_append_own_at _ rfl _ _ 48 rfl w.heap.size 92 i0 (.agg #[.int .i64 0, .string ⟨#[]⟩, .slice none 0 0, .slice none 0 0, .slice none 0 0]) 5 96 Tryz.underlying48 hi hz0 hz1 hz2 rfl (by decide) _ k (Pcs L) rfl HOW6.out ⟨w5.heap.size, 0, none⟩ 1 1 [.int .i64 pk, .string pt, .slice pA pm pc, .slice none 0 0, .slice none 0 0] rfl rfl HNC.out (pt_one _ _ _ _ _) ?a3 ?a4 ?a5 ?_)
        case a3 => unfold maxLen; have := HK9.out; omega
        case a4 => have := HK9.out; omega
        case a5 => first | exact BB6.out.size | (have h1 := HB5.out.size; have h2 := BB6.out.size; omega)
        intro v3 w7 hown hgrow _ _
        have O7 : Hid (Only (fun i => (Value.slice A k c).ownBlock = some i) w6 w7) := Lib.hid (by first | exact (Only.refl _ w6).grown hgrow (fun i hi _ => hi) | (rw [← hw6] at hgrow; exact (Only.refl _ w6).grown hgrow (fun i hi _ => hi)))
        have B7 : Hid (Below w.heap.size w w7) := Lib.hid (O7.out.below BB6.out BB6.out.size (fun i hi => (HOW6.out.lt i hi).1))
        obtain ⟨A7, c7, hv7⟩ : ∃ A7 c7, v3 = .slice A7 (k + 1) c7 := by
          rcases hown.2 with ⟨rfl, h0⟩ | ⟨g, cap, _, rfl, _⟩
          · omega
          · exact ⟨_, cap, rfl⟩
        subst hv7
        obtain ⟨k', hk'⟩ : ∃ k', k' = k + 1 := ⟨_, rfl⟩
        have HK7 : Hid (k' = (L ++ [p]).length ∧ k' = j + 1) := Lib.hid ⟨by rw [hk', List.length_append, HKJ.out.1]; rfl, by rw [hk', HKJ.out.2]⟩
        have PS7 : Hid (pcs' w.heap.size w7 (.slice A7 k' c7) (L ++ [p])) := Lib.hid ⟨by rw [Pcs_snoc, HCE.out, ← HK7.out.1, hk']; exact hown, fun q hq => by
          have hmm : ∀ q, pcM w.heap.size w6 q → pcM w.heap.size w7 q := fun q h => ⟨h.o.only O7.out (fun i hi e => own_two h.o HOW6.out (by decide) i hi e), h.n, h.l, h.k⟩
          rcases List.mem_append.1 hq with h | h
          · exact hmm q (HPS6.out.m q h)
          · obtain rfl : q = p := by simpa using h
            exact hmm q HPM6.out⟩
        have HRW7 : Hid (w7.ownsRow w3.heap.size 62 1 (.slice (some ⟨b1, 0, none⟩) k1 c1) k1 (Sl g Q)) := Lib.hid (own_only HRW6.out O7.out (fun i hi e => own_two HRW6.out HOW6.out (by decide) i hi e))
        have HBF7 : Hid (rbuf w7 (.slice (some ⟨g, 0, none⟩) s.size cap) l) := Lib.hid (HBF6.out.only O7.out (fun i hi e => by
          rcases HOW6.out.2 with ⟨e0, _⟩ | ⟨g9, cap9, cur9, e9, _, hh9, _⟩
          · rw [e0] at e; cases e
          · have h9 : g9 = i := by rw [e9] at e; simpa [Value.ownBlock] using e
            subst h9
            exact HBF6.out.apart (t := 92) (cs := cur9) hh9 (by decide) _ hi rfl))
        have HPO7 : Hid (partsOf l 0 Q = (L ++ [p]).map Pc.sp ++ partsOf l (j + 1) (Q.drop (j + 1))) := Lib.hid (by
          rw [HPO.out, HDR.out, List.map_append, List.append_assoc]
          show _ ++ (sp j _ :: partsOf l (j + 1) _) = _
          rw [← HSP.out]; rfl)
        rw [← hk']
        clear hown hgrow hk' hw6
        go_wp2
        go_roundw
        case rel => exact ⟨j + 1, k', c7, A7, L ++ [p], rfl, by first | rfl | go_num, by have := HJK.out; omega, HK7, PS7, HPO7, HRW7, HBF7, B7⟩
        case measure => have h1 := HJK.out; have h2 := HK1.out; have h3 := HQN.out; simp [intOf]; omega
      · have hjk' : ¬ (j : Int) < (k1 : Int) := by omega
        have HE : Hid (L.map Pc.sp = partsOf l 0 Q) := Lib.hid (by
          rw [HPO.out, List.drop_eq_nil_of_le (by have := HK1.out; omega)]
          show _ = _ ++ []
          rw [List.append_nil])
        clear hjk
        go_wp2
        go_ret
        exact ⟨A, c, L, by rw [HKJ.out.1]; rfl, HE.out, by have h := HPS.out; rw [HKJ.out.1] at h; exact h, HB.out⟩
end Go.Proofs.YtnkninjdpgpkmaaGreatDoor.Hs
