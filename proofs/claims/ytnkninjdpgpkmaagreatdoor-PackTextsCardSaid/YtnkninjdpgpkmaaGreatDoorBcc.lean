/-
  The reference's symbols: a symbol of a code is written; an op is written; what stays of other rows.
  The reference's Write of a head: what it answers, and what is written.
  The reference's Write of a dynamic head.
  The reference's Write of any head.
  Conditions: as each theorem says.
-/
import Derived.Test.YtnkninjdpgpkmaaGreatDoorBbl
import Derived.Test.YtnkninjdpgpkmaaGreatDoorBca
import Derived.Test.YtnkninjdpgpkmaaGreatDoorBbd
import Derived.Test.YtnkninjdpgpkmaaGreatDoorBcb
namespace Go.Proofs.YtnkninjdpgpkmaaGreatDoor.Hl
open Go.RowKit Go.Proofs.YtnkninjdpgpkmaaGreatDoor.Vm Go.Proofs.YtnkninjdpgpkmaaGreatDoor.Vo Go.Proofs.YtnkninjdpgpkmaaGreatDoor.Bm Go.Proofs.YtnkninjdpgpkmaaGreatDoor.Bw Go.Proofs.YtnkninjdpgpkmaaGreatDoor.Bv Go.Proofs.YtnkninjdpgpkmaaGreatDoor.Bx Go.Proofs.YtnkninjdpgpkmaaGreatDoor.Be Go.Proofs.YtnkninjdpgpkmaaGreatDoor.Na Go.Proofs.YtnkninjdpgpkmaaGreatDoor.Nm Go.Proofs.YtnkninjdpgpkmaaGreatDoor.Ne Go.Proofs.YtnkninjdpgpkmaaGreatDoor.Km Go.Proofs.YtnkninjdpgpkmaaGreatDoor.Kw Go.Proofs.YtnkninjdpgpkmaaGreatDoor.Ks Go.Proofs.YtnkninjdpgpkmaaGreatDoor.Ma Go.Proofs.YtnkninjdpgpkmaaGreatDoor.Pw Go.Proofs.YtnkninjdpgpkmaaGreatDoor.Sm Go.Proofs.YtnkninjdpgpkmaaGreatDoor.Sp Go.Proofs.YtnkninjdpgpkmaaGreatDoor.Sr Go.Proofs.YtnkninjdpgpkmaaGreatDoor.Kh Go.Proofs.YtnkninjdpgpkmaaGreatDoor.Fm Go.Proofs.YtnkninjdpgpkmaaGreatDoor.Gm Go.Proofs.YtnkninjdpgpkmaaGreatDoor.Ga Go.Proofs.YtnkninjdpgpkmaaGreatDoor.Gp Go.Proofs.YtnkninjdpgpkmaaGreatDoor.Gt Go.Proofs.YtnkninjdpgpkmaaGreatDoor.Gw Go.Proofs.YtnkninjdpgpkmaaGreatDoor.Gy

/-- The reference's writer, all of it new since a world of B blocks, with l written. -/
structure rwl (B : Nat) (w : World) (g : Nat) (v : Value) (l : List (Nat × Nat)) : Prop where
  t : ∃ bs, rw' B w g v bs ∧ bs.length = bl l ∧ bitN bs = bn l
  g : B ≤ g
  s : B ≤ w.heap.size
section
variable {B : Nat} {w w' : World} {g : Nat} {v v' : Value} {l l2 : List (Nat × Nat)}
theorem rwl.lo (h : rwl B w g v l) {i : Nat} (hi : own g v i) : B ≤ i := by
  obtain ⟨bs, t, _⟩ := h.t
  rcases hi with rfl | hi
  · exact h.g
  · exact (World.ownsRow.lt t.o i hi).1
theorem rwl.lt (h : rwl B w g v l) {i : Nat} (hi : own g v i) : i < w.heap.size := by
  obtain ⟨bs, t, _⟩ := h.t
  rcases hi with rfl | hi
  · exact Blk.lt t.b
  · exact (World.ownsRow.lt t.o i hi).2
theorem rwl.kind (h : rwl B w g v l) {i : Nat} (hi : own g v i) {t : TypeId} {cs : Array Value} (k : Blk w i t cs) : t = 112 ∨ t = 5 := by
  obtain ⟨bs, r, _⟩ := h.t
  rcases hi with rfl | hi
  · by_cases e : t = 112
    · exact .inl e
    · exact absurd rfl (Blk.apart r.b k (fun e' => e e'.symm))
  · by_cases e : t = 5
    · exact .inr e
    · exact absurd rfl (own_apart r.o k (fun e' => e e'.symm) i hi)
theorem rwl.below (h : rwl B w g v l) (k : Below w.heap.size w w') : rwl B w' g v l := by
  obtain ⟨bs, t, h1, h2⟩ := h.t
  exact ⟨⟨bs, rw_below t k, h1, h2⟩, h.g, Nat.le_trans h.s k.size⟩
/-- What lies below B, and rows of ints, stay while the writer writes. -/
theorem rwl.keeps (h : rwl B w g v l) (o : Only (own g v) w w') {A : Option Addr} {n : Nat} {f : Nat → Int} (r : rowS B w A n f) : rowS B w' A n f := by
  obtain ⟨hr, h0 | ⟨b, off, rfl, hb⟩⟩ := r
  · exact ⟨fun i hi => absurd hi (by omega), .inl h0⟩
  · have hno : ¬ own g v b := fun e => by
      rcases hb with hb | ⟨cs', hb⟩
      · have := h.lo e; omega
      · rcases h.kind e hb with e | e <;> exact absurd e (by decide)
    refine ⟨fun i hi => ?_, ?_⟩
    · obtain ⟨b', off', e, hl, hc⟩ := hr i hi
      injection e with e
      injection e with e1 e2 _
      subst e1; subst e2
      refine ⟨b, off, rfl, Nat.lt_of_lt_of_le hl o.size, ?_⟩
      rw [← hc]
      simp only [World.cell?, o.block b hl hno]
    · exact .inr ⟨b, off, rfl, hb.imp id (fun ⟨cs, h⟩ => ⟨cs, h.only o hno⟩)⟩
theorem rwl.base (h : rwl B w g v l) (o : Only (own g v) w w') {W : World} (hB : W.heap.size = B) (k : Below W.heap.size W w) : Below W.heap.size W w' :=
  o.below k k.size (fun i hi => by rw [hB]; exact h.lo hi)
/-- What a call that writes leaves. -/
structure wrt (B : Nat) (w : World) (g : Nat) (v : Value) (l : List (Nat × Nat)) (w' : World) (v' : Value) : Prop where
  r : rwl B w' g v' l
  o : Only (own g v) w w'
  a : later w v v'
theorem rwl.of (h : rwl B w g v l) {bs' : List UInt8} (t : rw' B w' g v' bs') (o : Only (own g v) w w') (a : later w v v') (h1 : bs'.length = bl l2) (h2 : bitN bs' = bn l2) : wrt B w g v l2 w' v' :=
  ⟨⟨⟨bs', t, h1, h2⟩, h.g, Nat.le_trans h.s o.size⟩, o, a⟩
theorem rwl.refl (h : rwl B w g v l) : wrt B w g v l w v := ⟨h, Only.refl _ _, .inl rfl⟩
theorem rwl.then {w2 : World} {v2 : Value} {l3 : List (Nat × Nat)} (h : wrt B w g v l w' v') (k : wrt B w' g v' l3 w2 v2) : wrt B w g v l3 w2 v2 := by
  have s : ∀ i, own g v' i → own g v i ∨ w.heap.size ≤ i := fun i hi => by
    rcases hi with rfl | hi
    · exact .inl (.inl rfl)
    · rcases own_of (g := g) h.a i hi with h1 | h1
      · exact .inl h1
      · exact .inr (by omega)
  exact ⟨k.r, h.o.then k.o (fun i hi hlt => (s i hi).elim id (fun e => absurd hlt (by omega))), later_trans h.a k.a h.o.size⟩
theorem rwl.gone (h : rwl B w g v l) : rgone B w g v 0 0 w v l := by
  obtain ⟨bs, t, h1, h2⟩ := h.t
  exact ⟨⟨bs, t, by rw [Nat.zero_add]; exact h1, by rw [Nat.pow_zero, Nat.mul_one, Nat.zero_add]; exact h2⟩, Only.refl _ _, .inl rfl, h.s⟩
theorem rwl.back (h : rwl B w g v l) (k : rgone B w g v 0 0 w' v' l2) : wrt B w g v l2 w' v' := by
  obtain ⟨bs, t, h1, h2⟩ := k.t
  exact h.of t k.o k.a (by rw [h1, Nat.zero_add]) (by rw [h2, Nat.pow_zero, Nat.mul_one, Nat.zero_add])
/-- A number is put. -/
theorem rwl.put {x m : Nat} (h : rwl B w g v l) (hy : x < 2 ^ m) (hm : m ≤ 32) (hz : bl l ≤ 70368744177664) :
    Calls Tryz.prog 85 #[.pointer (some ⟨g, 0, none⟩), .int .i64 (x : Int), .int .i64 (m : Int)] w fun e w' => e = .returned (.int .i64 0) ∧ ∃ v', wrt B w g v (l ++ [(x, m)]) w' v' :=
  (rgone.put rfl rfl hy hm h.gone (by omega)).mono (fun _ _ ⟨he, v', k⟩ => ⟨he, v', h.back k⟩)
theorem nat_L {n : Nat} {f : Nat → Int} (y : Nat) : ((y : Int) < 0 ∨ (n : Int) ≤ (y : Int) ∨ nth (L n f) ((y : Int)).toNat = 0) ↔ ¬ has (L n f) y := by
  unfold has
  rw [Int.toNat_natCast, L_length]
  omega
/-- A symbol is written, or has no code. -/
theorem rwl.sym {A : Option Addr} {n cap : Nat} {f : Nat → Int} (h : rwl B w g v l) (r : row w A n f) (he : err n f = 0) (hn : n ≤ 9223372036854775807) (y : Nat) (hz : bl l ≤ 70368744177664) :
    Calls Tryz.prog 56 #[.pointer (some ⟨g, 0, none⟩), .slice A n cap, .int .i64 (y : Int)] w fun e w' => e = .returned (.int .i64 (if has (L n f) y then 0 else 1)) ∧ ∃ v', wrt B w g v (if has (L n f) y then l ++ [sy (L n f) y] else l) w' v' := by
  obtain ⟨bs, t, h1, h2⟩ := h.t
  refine (rWrite_any B (y : Int) hn (Lib.hid r) (Lib.hid t) h.s (by omega)).mono ?_
  rintro e w' ⟨rfl, v', bs', t', z', n', o, a⟩
  by_cases hh : has (L n f) y
  · have hw : wrE n f (y : Int) = 0 := by unfold wrE; rw [if_neg (by rw [he]; decide), if_neg (fun e => (nat_L y).1 e hh)]
    rw [if_pos hh, if_pos hh]
    unfold wrZ at z'
    unfold wrN at n'
    rw [if_pos hw, Int.toNat_natCast] at z' n'
    refine ⟨by rw [hw], v', h.of t' o a ?_ ?_⟩
    · rw [z', h1, bl_snoc]; rfl
    · rw [n', h1, h2, bn_append]
      show _ = bn l + 2 ^ bl l * ((sy (L n f) y).1 + 2 ^ (sy (L n f) y).2 * 0)
      rw [Nat.mul_zero, Nat.add_zero, Nat.mul_comm]
      rfl
  · have hw : wrE n f (y : Int) = 1 := by unfold wrE; rw [if_neg (by rw [he]; decide), if_pos ((nat_L y).2 hh)]
    rw [if_neg hh, if_neg hh]
    unfold wrZ at z'
    unfold wrN at n'
    rw [if_neg (by rw [hw]; decide)] at z' n'
    exact ⟨by rw [hw], v', h.of t' o a (by rw [z', h1]) (by rw [n', h2])⟩
end

theorem rowS_below {B : Nat} {w w' : World} {A : Option Addr} {n : Nat} {f : Nat → Int} (r : rowS B w A n f) (k : Below w.heap.size w w') : rowS B w' A n f := by
  obtain ⟨hr, h0⟩ := r
  exact ⟨hr.below k, h0.imp id (fun ⟨b, off, e, h⟩ => ⟨b, off, e, h.imp id (fun ⟨cs, x⟩ => ⟨cs, x.below k⟩)⟩)⟩
theorem L_le' {n : Nat} {f : Nat → Int} (he : err n f = 0) (y : Nat) : (sy (L n f) y).2 ≤ 15 := by
  obtain ⟨_, h2, _⟩ := err_zero he
  exact L_le h2 y
section
variable {B : Nat} {w : World} {g : Nat} {v : Value} {l : List (Nat × Nat)}
/-- What comes of an op. -/
def symR (B : Nat) (w : World) (g : Nat) (v : Value) (l : List (Nat × Nat)) (Li Di : List Nat) (o : Opx) (e : Ending) (w' : World) : Prop :=
  ∃ w1, Below w.heap.size w w1 ∧ e = .returned (.int .i64 (if hasO Li Di o then 0 else 1)) ∧ ∃ v' l', wrt B w1 g v l' w' v' ∧ (hasO Li Di o → l' = l ++ encO Li Di o)
set_option maxHeartbeats 2000000 in
set_option maxRecDepth 100000 in
theorem rsymbols_any {A1 A2 : Option Addr} {n1 c1 n2 c2 : Nat} {f1 f2 : Nat → Int} {o : Opi} (ho : okI o) (h : rwl B w g v l) (r1 : rowS B w A1 n1 f1) (e1 : err n1 f1 = 0) (m1 : n1 ≤ 9223372036854775807) (r2 : rowS B w A2 n2 f2) (e2 : err n2 f2 = 0) (m2 : n2 ≤ 9223372036854775807) (hz : bl l ≤ 70368744000000) :
    Calls Tryz.prog 55 #[.pointer (some ⟨g, 0, none⟩), .slice A1 n1 c1, .slice A2 n2 c2, .agg #[.int .u8 (o.x.toNat : Int), .int .i64 o.n, .int .i64 o.d]] w (symR B w g v l (L n1 f1) (L n2 f2) o.nat) := by
  obtain ⟨x, n, d⟩ := o
  dsimp only
  obtain ⟨yx, hyx⟩ : ∃ yx : Int, yx = (x.toNat : Int) := ⟨_, rfl⟩
  obtain ⟨yy, hyy⟩ : ∃ yy, yy = x.toNat := ⟨_, rfl⟩
  rw [← hyx]
  obtain ⟨w1, hw1⟩ : ∃ w1, w1 = w.alloc (.cells #[.int .u8 yx, .int .i64 n, .int .i64 d] 89) := ⟨_, rfl⟩
  have B1 : Hid (Below w.heap.size w w1) := Lib.hid (by rw [hw1]; exact below_alloc _ _)
  obtain ⟨Z, hZ⟩ : ∃ Z, Z = w.heap.size := ⟨_, rfl⟩
  have K1 : Hid (Blk w1 Z 89 #[.int .u8 yx, .int .i64 n, .int .i64 d]) := Lib.hid (by rw [hw1, hZ]; exact Blk.fresh _ _ _)
  have W1 := Lib.hid (h.below B1.out)
  have R1 : Hid (row w1 A1 n1 f1) := Lib.hid (r1.1.below B1.out)
  have R2 : Hid (rowS B w1 A2 n2 f2) := Lib.hid (rowS_below r2 B1.out)
  obtain ⟨Li, hLi⟩ : ∃ Li, Li = L n1 f1 := ⟨_, rfl⟩
  obtain ⟨Di, hDi⟩ : ∃ Di, Di = L n2 f2 := ⟨_, rfl⟩
  rw [← hLi, ← hDi]
  obtain ⟨er, her⟩ : ∃ er : Int, er = if hasO Li Di (Opi.nat ⟨x, n, d⟩) then 0 else 1 := ⟨_, rfl⟩
  unfold symR
  rw [← her]
  have HER : Hid ((hasO Li Di (Opi.nat ⟨x, n, d⟩) → er = 0) ∧ (¬ hasO Li Di (Opi.nat ⟨x, n, d⟩) → er = 1)) := Lib.hid ⟨fun h => by rw [her, if_pos h], fun h => by rw [her, if_neg h]⟩
  clear her
  have HY256 : Hid (yy < 256) := Lib.hid (by rw [hyy]; exact x.toNat_lt)
  have HZ := Lib.hid hz
  have k0 : w1.cell? ⟨Z, 0, none⟩ = some (.int .u8 yx) := K1.out.cell 0
  have k1 : w1.cell? ⟨Z, 1, none⟩ = some (.int .i64 n) := K1.out.cell 1
  have k2 : w1.cell? ⟨Z, 2, none⟩ = some (.int .i64 d) := K1.out.cell 2
  have HSL : Hid (∀ u v' l' (y : Nat), rwl B u g v' l' → row u A1 n1 f1 → bl l' ≤ 70368744177664 → Calls Tryz.prog 56 #[.pointer (some ⟨g, 0, none⟩), .slice A1 n1 c1, .int .i64 (y : Int)] u fun e w' => e = .returned (.int .i64 (if has Li y then 0 else 1)) ∧ ∃ v2, wrt B u g v' (if has Li y then l' ++ [sy Li y] else l') w' v2) := Lib.hid (fun u v' l' y hu hr hz' => by rw [hLi]; exact hu.sym hr e1 m1 y hz')
  have HSD : Hid (∀ u v' l' (y : Nat), rwl B u g v' l' → row u A2 n2 f2 → bl l' ≤ 70368744177664 → Calls Tryz.prog 56 #[.pointer (some ⟨g, 0, none⟩), .slice A2 n2 c2, .int .i64 (y : Int)] u fun e w' => e = .returned (.int .i64 (if has Di y then 0 else 1)) ∧ ∃ v2, wrt B u g v' (if has Di y then l' ++ [sy Di y] else l') w' v2) := Lib.hid (fun u v' l' y hu hr hz' => by rw [hDi]; exact hu.sym hr e2 m2 y hz')
  have HSY : Hid (∀ y, (sy Li y).2 ≤ 15) := Lib.hid (fun y => by rw [hLi]; exact L_le' e1 y)
  have HSY2 : Hid (∀ y, (sy Di y).2 ≤ 15) := Lib.hid (fun y => by rw [hDi]; exact L_le' e2 y)
  by_cases h0 : n = 0
  · subst h0
    obtain ⟨p1, p2⟩ := lit_has (Li := Li) (Di := Di) (o := ⟨x, 0, d⟩) rfl
    have P2 : Hid (encO Li Di (Opi.nat ⟨x, 0, d⟩) = [sy Li yy]) := Lib.hid (by rw [p2, hyy])
    have PI : Hid (hasO Li Di (Opi.nat ⟨x, 0, d⟩) ↔ has Li yy) := Lib.hid (by rw [hyy]; exact p1)
    have hyxy : yx = (yy : Int) := by rw [hyx, hyy]
    have hcv : IntKind.i64.wrap yx = (yy : Int) := by rw [IntKind.wrap_i64]; have := HY256.out; omega
    have HW := Lib.hid (HSL.out w1 v l yy W1.out R1.out (by have := HZ.out; omega))
    clear h ho hz hyx hyy hyxy p1 p2 r1 r2 e1 e2 hLi hDi
    go_enter Tryz.func55, Tryz.ntmps55
    go_wp2_with fail
    rw [← hw1]
    try rw [← hZ]
    clear hw1 hZ
    go_wp2_with fail
    refine HW.out.mono ?_
    rintro e w2 ⟨rfl, v2, hk⟩
    have HK := Lib.hid hk
    clear hk
    obtain ⟨e9, he9⟩ : ∃ e9 : Int, e9 = if has Li yy then 0 else 1 := ⟨_, rfl⟩
    rw [← he9]
    have HE9 : Hid (e9 = er) := Lib.hid (by
      rw [he9]
      by_cases hh : has Li yy
      · rw [if_pos hh, HER.out.1 (PI.out.2 hh)]
      · rw [if_neg hh, HER.out.2 (fun e => hh (PI.out.1 e))])
    clear he9
    go_wp2
    go_ret
    refine ⟨w1, B1.out, by rw [HE9.out]; rfl, v2, _, HK.out, fun e => ?_⟩
    rw [if_pos (PI.out.1 e), P2.out]
  · have hn0 : (n == 0) = false := by simp [h0]
    have ho' : 3 ≤ n ∧ n ≤ 258 ∧ 1 ≤ d ∧ d ≤ 32768 := ho.resolve_left h0
    obtain ⟨nn, rfl⟩ := Int.eq_ofNat_of_zero_le (show 0 ≤ n by omega)
    obtain ⟨dd, rfl⟩ := Int.eq_ofNat_of_zero_le (show 0 ≤ d by omega)
    have hn3 : 3 ≤ nn ∧ nn ≤ 258 := by omega
    have hd3 : 1 ≤ dd ∧ dd ≤ 32768 := by omega
    obtain ⟨p1, p2⟩ := copy_has (Li := Li) (Di := Di) (o := ⟨x, (nn : Int), (dd : Int)⟩) rfl rfl hn3.1
    have P2 := Lib.hid p2
    have PI := Lib.hid p1
    have HOL := Lib.hid (fun u => rOfLength_any (z := (nn : Int)) (by omega) (by omega) u)
    rw [ofL_in hn3.1 hn3.2] at HOL
    have HOD := Lib.hid (fun u => rOfDist_any (z := (dd : Int)) (by omega) (by omega) u)
    rw [ofD_in hd3.1 hd3.2] at HOD
    have HLB : Hid (nn - lB (lS nn) < 2 ^ lb (lS nn) ∧ lb (lS nn) ≤ 32) := Lib.hid ⟨lS_hi hn3.1 hn3.2, by have := lb_le (lS_le nn); omega⟩
    have HDB : Hid (dd - dB (dS dd) < 2 ^ fb 2 (dS dd) ∧ fb 2 (dS dd) ≤ 32) := Lib.hid ⟨dS_hi hd3.1 hd3.2, by have := fb2_le (k := dS dd) (by have := dS_le dd; omega); omega⟩
    obtain ⟨ys, hys⟩ : ∃ ys, ys = 257 + lS nn := ⟨_, rfl⟩
    obtain ⟨yb, hyb⟩ : ∃ yb, yb = lb (lS nn) := ⟨_, rfl⟩
    obtain ⟨yv, hyv⟩ : ∃ yv, yv = nn - lB (lS nn) := ⟨_, rfl⟩
    obtain ⟨zs, hzs⟩ : ∃ zs, zs = dS dd := ⟨_, rfl⟩
    obtain ⟨zb, hzb⟩ : ∃ zb, zb = fb 2 (dS dd) := ⟨_, rfl⟩
    obtain ⟨zv, hzv⟩ : ∃ zv, zv = dd - dB (dS dd) := ⟨_, rfl⟩
    rw [← hys, ← hyb, ← hyv] at HOL
    rw [← hyb, ← hyv] at HLB
    rw [← hzb, ← hzv, ← hzs] at HOD
    rw [← hzb, ← hzv] at HDB
    rw [← hys, ← hyb, ← hyv, ← hzb, ← hzv, ← hzs] at P2
    rw [← hys, ← hzs] at PI
    have HW := Lib.hid (HSL.out w1 v l ys W1.out R1.out (by have := HZ.out; omega))
    clear h ho ho' hz hyx hyy p1 p2 hn3 hd3 h0 r1 r2 e1 e2 hys hyb hyv hzs hzb hzv hLi hDi
    go_enter Tryz.func55, Tryz.ntmps55
    go_wp2_with fail
    rw [← hw1]
    try rw [← hZ]
    clear hw1 hZ
    go_wp2_with fail
    refine (HOL.out _).mono ?_
    rintro e w' ⟨rfl, rfl⟩
    go_wp2_with fail
    refine (HOD.out _).mono ?_
    rintro e w' ⟨rfl, rfl⟩
    go_wp2_with fail
    refine HW.out.mono ?_
    rintro e w2 ⟨rfl, v2, hk⟩
    clear HW k0 k1 k2
    by_cases hh : has Li ys
    · rw [if_pos hh] at hk ⊢
      have HK := Lib.hid hk
      have HH := Lib.hid hh
      have HZ2 : Hid (bl (l ++ [sy Li ys]) ≤ 70368744000100) := Lib.hid (by rw [bl_snoc]; have h1 := HSY.out ys; have h2 := HZ.out; omega)
      have HP1 := Lib.hid (hk.r.put HLB.out.1 HLB.out.2 (by have := HZ2.out; omega))
      have R22 : Hid (rowS B w2 A2 n2 f2) := Lib.hid (W1.out.keeps hk.o R2.out)
      clear hk hh
      go_wp2_with fail
      refine HP1.out.mono ?_
      rintro e w3 ⟨rfl, v3, hk3⟩
      have HK3 := Lib.hid (rwl.then HK.out hk3)
      have R23 : Hid (rowS B w3 A2 n2 f2) := Lib.hid (HK.out.r.keeps hk3.o R22.out)
      have HZ3 : Hid (bl (l ++ [sy Li ys] ++ [(yv, yb)]) ≤ 70368744000200) := Lib.hid (by rw [bl_snoc]; have h1 := HLB.out.2; have h2 := HZ2.out; show _ + yb ≤ _; omega)
      have HW3 := Lib.hid (HSD.out w3 v3 _ zs hk3.r R23.out.1 (by have := HZ3.out; omega))
      clear hk3 HP1
      go_wp2_with fail
      refine HW3.out.mono ?_
      rintro e w4 ⟨rfl, v4, hk4⟩
      have HK4 := Lib.hid (rwl.then HK3.out hk4)
      have HP4 := Lib.hid (hk4.r.put HDB.out.1 HDB.out.2 (by
        have h3 := HZ3.out
        by_cases h4 : has Di zs
        · rw [if_pos h4, bl_snoc]; have := HSY2.out zs; omega
        · rw [if_neg h4]; omega))
      obtain ⟨e9, he9⟩ : ∃ e9 : Int, e9 = if has Di zs then 0 else 1 := ⟨_, rfl⟩
      rw [← he9]
      have HE9 : Hid (e9 = er) := Lib.hid (by
        rw [he9]
        by_cases hd : has Di zs
        · rw [if_pos hd, HER.out.1 (PI.out.2 ⟨HH.out, hd⟩)]
        · rw [if_neg hd, HER.out.2 (fun e => hd (PI.out.1 e).2)])
      clear hk4 HW3 he9
      go_wp2_with fail
      refine HP4.out.mono ?_
      rintro e w5 ⟨rfl, v5, hk5⟩
      have HK5 := Lib.hid (rwl.then HK4.out hk5)
      clear hk5 HP4
      go_wp2
      go_ret
      refine ⟨w1, B1.out, by rw [HE9.out]; rfl, v5, _, HK5.out, fun e => ?_⟩
      rw [if_pos (PI.out.1 e).2, P2.out]
      simp only [List.append_assoc, List.cons_append, List.nil_append]
    · rw [if_neg hh] at hk ⊢
      have HK := Lib.hid hk
      have HNO : Hid (er = 1) := Lib.hid (HER.out.2 (fun e => hh (PI.out.1 e).1))
      have HNH : Hid (¬ hasO Li Di (Opi.nat ⟨x, (nn : Int), (dd : Int)⟩)) := Lib.hid (fun e => hh (PI.out.1 e).1)
      clear hk hh
      go_wp2
      go_ret
      exact ⟨w1, B1.out, by rw [HNO.out]; rfl, v2, _, HK.out, fun e => absurd e HNH.out⟩
end
end Go.Proofs.YtnkninjdpgpkmaaGreatDoor.Hl
namespace Go.Proofs.YtnkninjdpgpkmaaGreatDoor.Mb
open Go.RowKit Go.Proofs.YtnkninjdpgpkmaaGreatDoor.Vm Go.Proofs.YtnkninjdpgpkmaaGreatDoor.Vo Go.Proofs.YtnkninjdpgpkmaaGreatDoor.Bm Go.Proofs.YtnkninjdpgpkmaaGreatDoor.Bt Go.Proofs.YtnkninjdpgpkmaaGreatDoor.Bw Go.Proofs.YtnkninjdpgpkmaaGreatDoor.Bp Go.Proofs.YtnkninjdpgpkmaaGreatDoor.Bs Go.Proofs.YtnkninjdpgpkmaaGreatDoor.Bv Go.Proofs.YtnkninjdpgpkmaaGreatDoor.Bx Go.Proofs.YtnkninjdpgpkmaaGreatDoor.Na Go.Proofs.YtnkninjdpgpkmaaGreatDoor.Nf Go.Proofs.YtnkninjdpgpkmaaGreatDoor.Nm Go.Proofs.YtnkninjdpgpkmaaGreatDoor.Ni Go.Proofs.YtnkninjdpgpkmaaGreatDoor.Ne Go.Proofs.YtnkninjdpgpkmaaGreatDoor.Nh Go.Proofs.YtnkninjdpgpkmaaGreatDoor.Pm Go.Proofs.YtnkninjdpgpkmaaGreatDoor.Pw Go.Proofs.YtnkninjdpgpkmaaGreatDoor.Pi Go.Proofs.YtnkninjdpgpkmaaGreatDoor.Ko Go.Proofs.YtnkninjdpgpkmaaGreatDoor.Ka Go.Proofs.YtnkninjdpgpkmaaGreatDoor.Kb Go.Proofs.YtnkninjdpgpkmaaGreatDoor.Km Go.Proofs.YtnkninjdpgpkmaaGreatDoor.Kw Go.Proofs.YtnkninjdpgpkmaaGreatDoor.Ks Go.Proofs.YtnkninjdpgpkmaaGreatDoor.Kc Go.Proofs.YtnkninjdpgpkmaaGreatDoor.Kd Go.Proofs.YtnkninjdpgpkmaaGreatDoor.Ke Go.Proofs.YtnkninjdpgpkmaaGreatDoor.Ky Go.Proofs.YtnkninjdpgpkmaaGreatDoor.Kx Go.Proofs.YtnkninjdpgpkmaaGreatDoor.Ku Go.Proofs.YtnkninjdpgpkmaaGreatDoor.Kh Go.Proofs.YtnkninjdpgpkmaaGreatDoor.Be Go.Proofs.YtnkninjdpgpkmaaGreatDoor.Ki Go.Proofs.YtnkninjdpgpkmaaGreatDoor.Kl Go.Proofs.YtnkninjdpgpkmaaGreatDoor.Kn Go.Proofs.YtnkninjdpgpkmaaGreatDoor.Ma

section
variable {base : Nat} {w : World} {g z0 : Nat} {v : Value} {bs : List UInt8} {b : Bool} {k z : Int} {A1 A2 : Option Addr} {n1 c1 n2 c2 : Nat} {f1 f2 : Nat → Int}
set_option maxHeartbeats 2000000 in
set_option maxRecDepth 100000 in
theorem rWrite_no (h : k < 0 ∨ 2 < k ∨ (k = 0 ∧ z < 0) ∨ (k = 0 ∧ 0 ≤ z ∧ 65535 < z) ∨ (k = 2 ∧ n1 < 257) ∨ (k = 2 ∧ 257 ≤ n1 ∧ 286 < n1) ∨ (k = 2 ∧ 257 ≤ n1 ∧ n1 ≤ 286 ∧ n2 < 1) ∨ (k = 2 ∧ 257 ≤ n1 ∧ n1 ≤ 286 ∧ 1 ≤ n2 ∧ 30 < n2)) :
    Calls Tryz.prog 51 #[.pointer (some ⟨g, 0, none⟩), hv b k z (.slice A1 n1 c1) (.slice A2 n2 c2)] w fun e w' => e = .returned (.int .i64 1) ∧ Below w.heap.size w w' := by
  rcases h with h | h | ⟨h, h1⟩ | ⟨h, h1, h2⟩ | ⟨h, h1⟩ | ⟨h, h1, h2⟩ | ⟨h, h1, h2, h3⟩ | ⟨h, h1, h2, h3, h4⟩
  · go_enter Tryz.func51, Tryz.ntmps51
    go_wp2
    go_ret
    exact ⟨rfl, below_alloc _ _⟩
  · have h' : ¬ k < 0 := by omega
    go_enter Tryz.func51, Tryz.ntmps51
    go_wp2
    go_ret
    exact ⟨rfl, below_alloc _ _⟩
  all_goals
    subst h
    go_enter Tryz.func51, Tryz.ntmps51
    go_wp2
    go_ret
    exact ⟨rfl, below_alloc _ _⟩
set_option maxRecDepth 100000 in
theorem rWrite_unfit {e0 : Int} (h1 : 257 ≤ n1) (h1' : n1 ≤ 286) (h2 : 1 ≤ n2) (h2' : n2 ≤ 30) (he : e0 ≠ 0) (HF : Hid (∀ u, Below w.heap.size w u → Calls Tryz.prog 84 #[.slice A1 n1 c1, .slice A2 n2 c2] u fun e w' => e = .returned (.int .i64 e0) ∧ Below u.heap.size u w')) :
    Calls Tryz.prog 51 #[.pointer (some ⟨g, 0, none⟩), hv b 2 z (.slice A1 n1 c1) (.slice A2 n2 c2)] w fun e w' => e = .returned (.int .i64 e0) ∧ Below w.heap.size w w' := by
  have hne : (e0 != 0) = true := by simpa using he
  go_enter Tryz.func51, Tryz.ntmps51
  go_wp2_with fail
  refine (HF.out _ (below_alloc _ _)).mono ?_
  rintro e w1 ⟨rfl, b1⟩
  have B1 := Lib.hid b1
  clear b1
  go_wp2
  go_ret
  exact ⟨rfl, grows (below_alloc _ _) B1.out⟩

/-- The head's box stays under the writer. -/
theorem box_stay {base : Nat} {w w1 x : World} {g : Nat} {v vx : Value} {N z : Nat} {lx : List (Nat × Nat)} {t : TypeId} {cs : Array Value} {bs : List UInt8} (HW : rw' base w g v bs) (k1 : Blk w1 w.heap.size t cs) (h : rgone base w1 g v N z x vx lx) : Blk x w.heap.size t cs :=
  k1.only h.o (fun e => by
    rcases e with e | e
    · have := Blk.lt HW.b; omega
    · have := (HW.o.lt _ e).2; omega)

set_option maxHeartbeats 2000000 in
set_option maxRecDepth 100000 in
theorem rWrite_sto {n : Nat} (hn : n ≤ 65535) (HW : Hid (rw' base w g v bs)) (hz0 : bs.length = z0) (hb : base ≤ w.heap.size) (hz : z0 ≤ 100000000) :
    Calls Tryz.prog 51 #[.pointer (some ⟨g, 0, none⟩), hv b 0 (n : Int) (.slice A1 n1 c1) (.slice A2 n2 c2)] w fun e w' => e = .returned (.int .i64 0) ∧ ∃ v', rgone base w g v (bitN bs) z0 w' v' [(b.toNat, 1), (0, 2), (0, padZ (z0 + 3)), (n, 16), (65535 - n, 16)] := by
  subst hz0
  have b1 : Below w.heap.size w (w.alloc (.cells #[.bool b, .int .i64 0, .int .i64 (n : Int), .slice A1 n1 c1, .slice A2 n2 c2] 77)) := below_alloc _ _
  have k1 := Blk.fresh w 77 #[.bool b, .int .i64 0, .int .i64 (n : Int), .slice A1 n1 c1, .slice A2 n2 c2]
  obtain ⟨w1, hw1⟩ : ∃ w1, w1 = w.alloc (.cells #[.bool b, .int .i64 0, .int .i64 (n : Int), .slice A1 n1 c1, .slice A2 n2 c2] 77) := ⟨_, rfl⟩
  rw [← hw1] at b1 k1
  have HK : Hid (∀ x vx lx, rgone base w1 g v (bitN bs) bs.length x vx lx → Blk x w.heap.size 77 #[.bool b, .int .i64 0, .int .i64 (n : Int), .slice A1 n1 c1, .slice A2 n2 c2]) := Lib.hid (fun x vx lx h => box_stay HW.out k1 h)
  have G1 : Hid (rgone base w1 g v (bitN bs) bs.length w1 v []) := Lib.hid (rgone.start (rw_below HW.out b1) (Nat.le_trans hb b1.size))
  have HE : Hid (∀ x vx lx, rgone base w1 g v (bitN bs) bs.length x vx lx → rgone base w g v (bitN bs) bs.length x vx lx) := Lib.hid (fun x vx lx h => by
    have h0 := (rgone.start HW.out hb).below b1
    have := h0.trans h (by simp [bn]) (by simp [bl])
    simpa using this)
  have hx3 : (65535 : Int) - (n : Int) = ((65535 - n : Nat) : Int) := by omega
  have HX3 := Lib.hid hx3
  have hp : padZ (bs.length + 3) ≤ 8 := by unfold padZ; omega
  obtain ⟨Z, hZ⟩ : ∃ Z, Z = bs.length := ⟨_, rfl⟩
  rw [← hZ] at HK G1 HE hz hp ⊢
  clear k1 b1 HW hb hx3 hZ
  cases b
  · go_enter Tryz.func51, Tryz.ntmps51
    go_wp2_with fail
    rw [← hw1]
    refine (G1.out.put (y := 0) (m := 1) rfl rfl (by omega) (by omega) (by simp [bl]; omega)).mono ?_
    clear hw1
    rintro e w2 ⟨rfl, v2, g2⟩
    have G2 := Lib.hid g2
    have d1 := (HK.out _ _ _ g2).cell 1
    clear g2 G1
    go_wp2_with fail
    refine (G2.out.put (y := 0) (m := 2) rfl rfl (by omega) (by omega) (by simp [bl]; omega)).mono ?_
    rintro e w3 ⟨rfl, v3, g3⟩
    have G3 := Lib.hid g3
    clear d1
    have d1 := (HK.out _ _ _ g3).cell 1
    clear g3 G2
    go_wp2_with fail
    refine (G3.out.align (by simp [bl]; omega)).mono ?_
    rintro e w4 ⟨rfl, v4, g4⟩
    have G4 := Lib.hid g4
    clear d1
    have d2 := (HK.out _ _ _ g4).cell 2
    clear g4 G3
    go_wp2_with fail
    refine (G4.out.put (y := n) (m := 16) rfl rfl (by omega) (by omega) (by simp [bl]; omega)).mono ?_
    rintro e w5 ⟨rfl, v5, g5⟩
    have G5 := Lib.hid g5
    clear d2
    have d2 := (HK.out _ _ _ g5).cell 2
    clear g5 G4
    go_wp2_with fail
    refine (G5.out.put (y := 65535 - n) (m := 16) HX3.out rfl (by omega) (by omega) (by simp [bl]; omega)).mono ?_
    rintro e w6 ⟨rfl, v6, g6⟩
    have G6 := Lib.hid g6
    clear d2
    have d1 := (HK.out _ _ _ g6).cell 1
    clear g6 G5
    go_wp2
    go_ret
    exact ⟨rfl, v6, by simpa [bl] using HE.out _ _ _ G6.out⟩
  · go_enter Tryz.func51, Tryz.ntmps51
    go_wp2_with fail
    rw [← hw1]
    refine (G1.out.put (y := 1) (m := 1) rfl rfl (by omega) (by omega) (by simp [bl]; omega)).mono ?_
    clear hw1
    rintro e w2 ⟨rfl, v2, g2⟩
    have G2 := Lib.hid g2
    have d1 := (HK.out _ _ _ g2).cell 1
    clear g2 G1
    go_wp2_with fail
    refine (G2.out.put (y := 0) (m := 2) rfl rfl (by omega) (by omega) (by simp [bl]; omega)).mono ?_
    rintro e w3 ⟨rfl, v3, g3⟩
    have G3 := Lib.hid g3
    clear d1
    have d1 := (HK.out _ _ _ g3).cell 1
    clear g3 G2
    go_wp2_with fail
    refine (G3.out.align (by simp [bl]; omega)).mono ?_
    rintro e w4 ⟨rfl, v4, g4⟩
    have G4 := Lib.hid g4
    clear d1
    have d2 := (HK.out _ _ _ g4).cell 2
    clear g4 G3
    go_wp2_with fail
    refine (G4.out.put (y := n) (m := 16) rfl rfl (by omega) (by omega) (by simp [bl]; omega)).mono ?_
    rintro e w5 ⟨rfl, v5, g5⟩
    have G5 := Lib.hid g5
    clear d2
    have d2 := (HK.out _ _ _ g5).cell 2
    clear g5 G4
    go_wp2_with fail
    refine (G5.out.put (y := 65535 - n) (m := 16) HX3.out rfl (by omega) (by omega) (by simp [bl]; omega)).mono ?_
    rintro e w6 ⟨rfl, v6, g6⟩
    have G6 := Lib.hid g6
    clear d2
    have d1 := (HK.out _ _ _ g6).cell 1
    clear g6 G5
    go_wp2
    go_ret
    exact ⟨rfl, v6, by simpa [bl] using HE.out _ _ _ G6.out⟩
set_option maxHeartbeats 2000000 in
set_option maxRecDepth 100000 in
theorem rWrite_fix (HW : Hid (rw' base w g v bs)) (hz0 : bs.length = z0) (hb : base ≤ w.heap.size) (hz : z0 ≤ 100000000) :
    Calls Tryz.prog 51 #[.pointer (some ⟨g, 0, none⟩), hv b 1 z (.slice A1 n1 c1) (.slice A2 n2 c2)] w fun e w' => e = .returned (.int .i64 0) ∧ ∃ v', rgone base w g v (bitN bs) z0 w' v' [(b.toNat, 1), (1, 2)] := by
  subst hz0
  have b1 : Below w.heap.size w (w.alloc (.cells #[.bool b, .int .i64 1, .int .i64 z, .slice A1 n1 c1, .slice A2 n2 c2] 77)) := below_alloc _ _
  have k1 := Blk.fresh w 77 #[.bool b, .int .i64 1, .int .i64 z, .slice A1 n1 c1, .slice A2 n2 c2]
  obtain ⟨w1, hw1⟩ : ∃ w1, w1 = w.alloc (.cells #[.bool b, .int .i64 1, .int .i64 z, .slice A1 n1 c1, .slice A2 n2 c2] 77) := ⟨_, rfl⟩
  rw [← hw1] at b1 k1
  have HK : Hid (∀ x vx lx, rgone base w1 g v (bitN bs) bs.length x vx lx → Blk x w.heap.size 77 #[.bool b, .int .i64 1, .int .i64 z, .slice A1 n1 c1, .slice A2 n2 c2]) := Lib.hid (fun x vx lx h => box_stay HW.out k1 h)
  have G1 : Hid (rgone base w1 g v (bitN bs) bs.length w1 v []) := Lib.hid (rgone.start (rw_below HW.out b1) (Nat.le_trans hb b1.size))
  have HE : Hid (∀ x vx lx, rgone base w1 g v (bitN bs) bs.length x vx lx → rgone base w g v (bitN bs) bs.length x vx lx) := Lib.hid (fun x vx lx h => by
    have h0 := (rgone.start HW.out hb).below b1
    have := h0.trans h (by simp [bn]) (by simp [bl])
    simpa using this)
  obtain ⟨Z, hZ⟩ : ∃ Z, Z = bs.length := ⟨_, rfl⟩
  rw [← hZ] at HK G1 HE hz ⊢
  clear k1 b1 HW hb hZ
  cases b
  · go_enter Tryz.func51, Tryz.ntmps51
    go_wp2_with fail
    rw [← hw1]
    refine (G1.out.put (y := 0) (m := 1) rfl rfl (by omega) (by omega) (by simp [bl]; omega)).mono ?_
    clear hw1
    rintro e w2 ⟨rfl, v2, g2⟩
    have G2 := Lib.hid g2
    have d1 := (HK.out _ _ _ g2).cell 1
    clear g2 G1
    go_wp2_with fail
    refine (G2.out.put (y := 1) (m := 2) rfl rfl (by omega) (by omega) (by simp [bl]; omega)).mono ?_
    rintro e w3 ⟨rfl, v3, g3⟩
    have G3 := Lib.hid g3
    clear d1
    have d1 := (HK.out _ _ _ g3).cell 1
    clear g3 G2
    go_wp2
    go_ret
    exact ⟨rfl, v3, by simpa [bl] using HE.out _ _ _ G3.out⟩
  · go_enter Tryz.func51, Tryz.ntmps51
    go_wp2_with fail
    rw [← hw1]
    refine (G1.out.put (y := 1) (m := 1) rfl rfl (by omega) (by omega) (by simp [bl]; omega)).mono ?_
    clear hw1
    rintro e w2 ⟨rfl, v2, g2⟩
    have G2 := Lib.hid g2
    have d1 := (HK.out _ _ _ g2).cell 1
    clear g2 G1
    go_wp2_with fail
    refine (G2.out.put (y := 1) (m := 2) rfl rfl (by omega) (by omega) (by simp [bl]; omega)).mono ?_
    rintro e w3 ⟨rfl, v3, g3⟩
    have G3 := Lib.hid g3
    clear d1
    have d1 := (HK.out _ _ _ g3).cell 1
    clear g3 G2
    go_wp2
    go_ret
    exact ⟨rfl, v3, by simpa [bl] using HE.out _ _ _ G3.out⟩
end
end Go.Proofs.YtnkninjdpgpkmaaGreatDoor.Mb
namespace Go.Proofs.YtnkninjdpgpkmaaGreatDoor.Mc
open Go.RowKit Go.Proofs.YtnkninjdpgpkmaaGreatDoor.Vm Go.Proofs.YtnkninjdpgpkmaaGreatDoor.Vo Go.Proofs.YtnkninjdpgpkmaaGreatDoor.Bm Go.Proofs.YtnkninjdpgpkmaaGreatDoor.Bt Go.Proofs.YtnkninjdpgpkmaaGreatDoor.Bw Go.Proofs.YtnkninjdpgpkmaaGreatDoor.Bp Go.Proofs.YtnkninjdpgpkmaaGreatDoor.Bs Go.Proofs.YtnkninjdpgpkmaaGreatDoor.Bv Go.Proofs.YtnkninjdpgpkmaaGreatDoor.Bx Go.Proofs.YtnkninjdpgpkmaaGreatDoor.Na Go.Proofs.YtnkninjdpgpkmaaGreatDoor.Nf Go.Proofs.YtnkninjdpgpkmaaGreatDoor.Nm Go.Proofs.YtnkninjdpgpkmaaGreatDoor.Ni Go.Proofs.YtnkninjdpgpkmaaGreatDoor.Ne Go.Proofs.YtnkninjdpgpkmaaGreatDoor.Nh Go.Proofs.YtnkninjdpgpkmaaGreatDoor.Pm Go.Proofs.YtnkninjdpgpkmaaGreatDoor.Pw Go.Proofs.YtnkninjdpgpkmaaGreatDoor.Pi Go.Proofs.YtnkninjdpgpkmaaGreatDoor.Ko Go.Proofs.YtnkninjdpgpkmaaGreatDoor.Ka Go.Proofs.YtnkninjdpgpkmaaGreatDoor.Kb Go.Proofs.YtnkninjdpgpkmaaGreatDoor.Km Go.Proofs.YtnkninjdpgpkmaaGreatDoor.Kw Go.Proofs.YtnkninjdpgpkmaaGreatDoor.Ks Go.Proofs.YtnkninjdpgpkmaaGreatDoor.Kc Go.Proofs.YtnkninjdpgpkmaaGreatDoor.Kd Go.Proofs.YtnkninjdpgpkmaaGreatDoor.Ke Go.Proofs.YtnkninjdpgpkmaaGreatDoor.Ky Go.Proofs.YtnkninjdpgpkmaaGreatDoor.Kx Go.Proofs.YtnkninjdpgpkmaaGreatDoor.Ku Go.Proofs.YtnkninjdpgpkmaaGreatDoor.Kh Go.Proofs.YtnkninjdpgpkmaaGreatDoor.Be Go.Proofs.YtnkninjdpgpkmaaGreatDoor.Ki Go.Proofs.YtnkninjdpgpkmaaGreatDoor.Kl Go.Proofs.YtnkninjdpgpkmaaGreatDoor.Kn Go.Proofs.YtnkninjdpgpkmaaGreatDoor.Ma Go.Proofs.YtnkninjdpgpkmaaGreatDoor.Mb

/-- A block made when the writer was there stays under it. -/
theorem blk_stay {base : Nat} {w0 w1 x : World} {g : Nat} {v : Value} {bs : List UInt8} {t : TypeId} {cs : Array Value} (h : rw' base w0 g v bs) (k : Blk w1 w0.heap.size t cs) (o : Only (own g v) w1 x) : Blk x w0.heap.size t cs :=
  k.only o (fun e => by
    rcases e with e | e
    · have := Blk.lt h.b; omega
    · have := (h.o.lt _ e).2; omega)

section
variable {base : Nat} {w : World} {g z0 : Nat} {v : Value} {bs : List UInt8} {b : Bool} {z : Int} {A1 A2 : Option Addr} {n1 c1 n2 c2 : Nat} {f1 f2 : Nat → Int}
set_option maxHeartbeats 8000000 in
set_option maxRecDepth 100000 in
theorem rWrite_dyn (h1 : 257 ≤ n1) (h1' : n1 ≤ 286) (h2 : 1 ≤ n2) (h2' : n2 ≤ 30) (hf1 : ∀ i, i < n1 → 0 ≤ f1 i ∧ f1 i ≤ 15) (hf2 : ∀ i, i < n2 → 0 ≤ f2 i ∧ f2 i ≤ 15) (hfit : fitsI n1 f1 n2 f2 = 0)
    (HW : Hid (rw' base w g v bs)) (hz0 : bs.length = z0) (hb : base ≤ w.heap.size) (hz : z0 ≤ 100000000) (HR : Hid (∀ x, Only (own g v) w x → row x A1 n1 f1 ∧ row x A2 n2 f2)) :
    Calls Tryz.prog 51 #[.pointer (some ⟨g, 0, none⟩), hv b 2 z (.slice A1 n1 c1) (.slice A2 n2 c2)] w fun e w' => e = .returned (.int .i64 0) ∧ ∃ v', rgone base w g v (bitN bs) z0 w' v' ([(b.toNat, 1), (2, 2)] ++ outD (L n1 f1) (L n2 f2)) := by
  subst hz0
  have b1 : Below w.heap.size w (w.alloc (.cells #[.bool b, .int .i64 2, .int .i64 z, .slice A1 n1 c1, .slice A2 n2 c2] 77)) := below_alloc _ _
  have k1 := Blk.fresh w 77 #[.bool b, .int .i64 2, .int .i64 z, .slice A1 n1 c1, .slice A2 n2 c2]
  obtain ⟨w1, hw1⟩ : ∃ w1, w1 = w.alloc (.cells #[.bool b, .int .i64 2, .int .i64 z, .slice A1 n1 c1, .slice A2 n2 c2] 77) := ⟨_, rfl⟩
  rw [← hw1] at b1 k1
  have HK : Hid (∀ x vx lx, rgone base w1 g v (bitN bs) bs.length x vx lx → Blk x w.heap.size 77 #[.bool b, .int .i64 2, .int .i64 z, .slice A1 n1 c1, .slice A2 n2 c2]) := Lib.hid (fun x vx lx h => box_stay HW.out k1 h)
  have G1 : Hid (rgone base w1 g v (bitN bs) bs.length w1 v []) := Lib.hid (rgone.start (rw_below HW.out b1) (Nat.le_trans hb b1.size))
  have HE : Hid (∀ x vx lx, rgone base w1 g v (bitN bs) bs.length x vx lx → rgone base w g v (bitN bs) bs.length x vx lx) := Lib.hid (fun x vx lx h => by
    have h0 := (rgone.start HW.out hb).below b1
    have := h0.trans h (by simp [bn]) (by simp [bl])
    simpa using this)
  have HRr : Hid (∀ x vx lx, rgone base w1 g v (bitN bs) bs.length x vx lx → row x A1 n1 f1 ∧ row x A2 n2 f2) := Lib.hid (fun x vx lx h => HR.out x ((Only.of_below b1).trans h.o))
  have HF : Hid (Calls Tryz.prog 84 #[.slice A1 n1 c1, .slice A2 n2 c2] w1 fun e w' => e = .returned (.int .i64 0) ∧ Below w1.heap.size w1 w') := Lib.hid (by
    have h := HRr.out _ _ _ G1.out
    have := rfits_any (c1 := c1) (c2 := c2) h1 (by omega) (by omega) (Lib.hid h.1) (Lib.hid h.2)
    rw [hfit] at this
    exact this)
  obtain ⟨Z, hZ⟩ : ∃ Z, Z = bs.length := ⟨_, rfl⟩
  rw [← hZ] at HK G1 HE HRr hz ⊢
  have HX1 : Hid (∀ k, k < n1 → ∃ x : Nat, f1 k = (x : Int) ∧ x < 16 ∧ (L n1 f1)[k]? = some x) := Lib.hid (fun k hk => ⟨nth (L n1 f1) k, L_eq hf1 hk, L_mem hf1 _ (List.mem_of_getElem? (nth_get (by rw [L_length]; exact hk))), nth_get (by rw [L_length]; exact hk)⟩)
  have HX2 : Hid (∀ k, k < n2 → ∃ x : Nat, f2 k = (x : Int) ∧ x < 16 ∧ (L n2 f2)[k]? = some x) := Lib.hid (fun k hk => ⟨nth (L n2 f2) k, L_eq hf2 hk, L_mem hf2 _ (List.mem_of_getElem? (nth_get (by rw [L_length]; exact hk))), nth_get (by rw [L_length]; exact hk)⟩)
  have HL1 : Hid ((L n1 f1).length = n1) := Lib.hid (L_length n1 f1)
  have HL2 : Hid ((L n2 f2).length = n2) := Lib.hid (L_length n2 f2)
  have HXO : Hid (outD (L n1 f1) (L n2 f2) = [(n1 - 257, 5), (n2 - 1, 5), (15, 4)] ++ ords.map (fun o => (c4 o, 3)) ++ ((L n1 f1).map (fun x => (turnN x 4, 4)) ++ (L n2 f2).map (fun x => (turnN x 4, 4)))) := Lib.hid (by
    unfold outD; rw [L_length, L_length, List.map_append])
  rw [HXO.out]
  obtain ⟨l1, hl1⟩ : ∃ l1, l1 = L n1 f1 := ⟨_, rfl⟩
  obtain ⟨l2, hl2⟩ : ∃ l2, l2 = L n2 f2 := ⟨_, rfl⟩
  rw [← hl1] at HX1 HL1 ⊢
  rw [← hl2] at HX2 HL2 ⊢
  clear k1 b1 HW hb hZ hf1 hf2 hfit HR HXO hl1 hl2
  cases b
  · go_enter Tryz.func51, Tryz.ntmps51
    go_wp2_with fail
    rw [← hw1]
    clear hw1
    refine HF.out.mono ?_
    rintro e w2 ⟨rfl, b2⟩
    have G1' := Lib.hid (G1.out.below b2)
    have d0 := (HK.out _ _ _ G1'.out).cell 0
    clear b2 G1 HF
    go_wp2_with fail
    refine (G1'.out.put (y := 0) (m := 1) rfl rfl (by omega) (by omega) (by simp [bl]; omega)).mono ?_
    rintro e w2 ⟨rfl, v2, g2⟩
    have G2 := Lib.hid g2
    clear d0
    have d1 := (HK.out _ _ _ g2).cell 1
    clear g2 G1'
    go_wp2_with fail
    refine (G2.out.put (y := 2) (m := 2) rfl rfl (by omega) (by omega) (by simp [bl]; omega)).mono ?_
    rintro e w3 ⟨rfl, v3, g3⟩
    have G3 := Lib.hid g3
    clear d1
    have d1 := (HK.out _ _ _ g3).cell 1
    have d3 := (HK.out _ _ _ g3).cell 3
    clear g3 G2
    go_wp2_with fail
    refine (G3.out.put (y := n1 - 257) (m := 5) (by omega) rfl (by omega) (by omega) (by simp [bl]; omega)).mono ?_
    rintro e w4 ⟨rfl, v4, g4⟩
    have G4 := Lib.hid g4
    clear d1 d3
    have d4 := (HK.out _ _ _ g4).cell 4
    clear g4 G3
    go_wp2_with fail
    refine (G4.out.put (y := n2 - 1) (m := 5) (by omega) rfl (by omega) (by omega) (by simp [bl]; omega)).mono ?_
    rintro e w5 ⟨rfl, v5, g5⟩
    have G5 := Lib.hid g5
    clear d4 g5 G4
    go_wp2_with fail
    refine (G5.out.put (y := 15) (m := 4) rfl rfl (by omega) (by omega) (by simp [bl]; omega)).mono ?_
    rintro e w6 ⟨rfl, v6, g6⟩
    have G6 : Hid (rgone base w1 g v (bitN bs) Z w6 v6 [(0, 1), (2, 2), (n1 - 257, 5), (n2 - 1, 5), (15, 4)]) := Lib.hid g6
    clear g6 G5
    go_wp2_with fail
    refine (order_any w6).mono ?_
    rintro e w7 ⟨rfl, k7, b7⟩
    have G7 := Lib.hid (G6.out.below b7)
    obtain ⟨bs6, t6, hl6, e6⟩ := G6.out.t
    have HO7 : Hid (∀ x, Only (own g v6) w7 x → Blk x w6.heap.size 3 (arr 19 (fun i => (ord i : Int)))) := Lib.hid (fun x o => blk_stay t6 k7 o)
    have R7 : Hid (rgone base w7 g v6 (bitN bs6) (Z + 17) w7 v6 []) := Lib.hid (by
      have h := rgone.start (rw_below t6 b7) G7.out.size
      rw [hl6, show bl [(0, 1), (2, 2), (n1 - 257, 5), (n2 - 1, 5), (15, 4)] = 17 by simp [bl]] at h
      exact h)
    have E6 := Lib.hid e6
    clear k7 b7 t6 hl6 e6 G6
    go_wp2_with fail
    go_loopw [8] (fun s8 wr => ∃ (k : Nat) (v' : Value), s8 = .int .i64 (k : Int) ∧ k ≤ 19 ∧ Hid (rgone base w7 g v6 (bitN bs6) (Z + 17) wr v' ((ords.take k).map (fun o => (c4 o, 3))))) (fun s8 _ => 19 - (intOf s8).toNat)
    case atStart => exact ⟨0, v6, rfl, by omega, Lib.hid (by simpa using R7.out)⟩
    case round =>
      obtain ⟨k, v8, rfl, hk, R8⟩ := hrel
      by_cases hk19 : k < 19
      · obtain ⟨o, ho⟩ : ∃ o, o = ord k := ⟨_, rfl⟩
        have HO := Lib.hid ho
        have kO := HO7.out wr R8.out.o
        have o1 := (kO.cell k).trans (arr_get _ hk19)
        have hlo := kO.lt
        rw [← ho] at o1
        have e19 : ords[k]? = some o := by rw [ho]; exact nth_get hk19
        have HE19 := Lib.hid e19
        have hbl : Hid (bl ((ords.take k).map (fun o => (c4 o, 3))) ≤ 60) := Lib.hid (by rw [bl_map, List.length_take, ords_length]; omega)
        clear ho kO hlo e19
        by_cases ho16 : o < 16
        · have ho16' : (o : Int) < 16 := by omega
          have HC : Hid (c4 o = 4) := Lib.hid (by unfold c4; rw [if_pos ho16])
          go_wp2_with fail
          refine (R8.out.put (y := 4) (m := 3) rfl rfl (by omega) (by omega) (by have := hbl.out; omega)).mono ?_
          rintro e w9 ⟨rfl, v9, r9⟩
          have R9 := Lib.hid r9
          clear r9
          go_wp2
          go_roundw
          case rel =>
            refine ⟨k + 1, v9, by go_num, by omega, Lib.hid ?_⟩
            have h := R9.out
            rw [take_snoc HE19.out, List.map_append]
            rw [show [o].map (fun o => (c4 o, 3)) = [(4, 3)] by simp [HC.out]]
            exact h
          case measure => simp [intOf]; omega
        · have ho16' : ¬ (o : Int) < 16 := by omega
          have HC : Hid (c4 o = 0) := Lib.hid (by unfold c4; rw [if_neg ho16])
          go_wp2_with fail
          refine (R8.out.put (y := 0) (m := 3) rfl rfl (by omega) (by omega) (by have := hbl.out; omega)).mono ?_
          rintro e w9 ⟨rfl, v9, r9⟩
          have R9 := Lib.hid r9
          clear r9
          go_wp2
          go_roundw
          case rel =>
            refine ⟨k + 1, v9, by go_num, by omega, Lib.hid ?_⟩
            have h := R9.out
            rw [take_snoc HE19.out, List.map_append]
            rw [show [o].map (fun o => (c4 o, 3)) = [(0, 3)] by simp [HC.out]]
            exact h
          case measure => simp [intOf]; omega
      · obtain rfl : k = 19 := by omega
        rw [show (((19 : Nat)) : Int) = (19 : Int) from rfl]
        have G8 : Hid (rgone base w1 g v (bitN bs) Z wr v8 ([(0, 1), (2, 2), (n1 - 257, 5), (n2 - 1, 5), (15, 4)] ++ ords.map (fun o => (c4 o, 3)))) := Lib.hid (by
          have h := R8.out
          rw [List.take_of_length_le (by rw [ords_length]; omega)] at h
          exact G7.out.trans h E6.out (by simp [bl]))
        have HBL : Hid (bl ([(0, 1), (2, 2), (n1 - 257, 5), (n2 - 1, 5), (15, 4)] ++ ords.map (fun o => (c4 o, 3))) = 74) := Lib.hid (by rw [bl_append, bl_map, ords_length]; simp [bl])
        obtain ⟨P, hP⟩ : ∃ P, P = [(0, 1), (2, 2), (n1 - 257, 5), (n2 - 1, 5), (15, 4)] ++ ords.map (fun o => (c4 o, 3)) := ⟨_, rfl⟩
        rw [← hP] at G8 HBL
        have HP := Lib.hid hP
        clear R8 R7 G7 E6 HO7 hP
        go_wp2_with fail
        go_loopw [9] (fun s9 wr => ∃ (k : Nat) (v' : Value), s9 = .int .i64 (k : Int) ∧ k ≤ n1 ∧ Hid (rgone base w1 g v (bitN bs) Z wr v' (P ++ (l1.take k).map (fun x => (turnN x 4, 4))))) (fun s9 _ => n1 - (intOf s9).toNat)
        case atStart => exact ⟨0, v8, rfl, by omega, Lib.hid (by simpa using G8.out)⟩
        case round =>
          obtain ⟨k, v10, rfl, hk, G10⟩ := hrel
          have d3 := (HK.out _ _ _ G10.out).cell 3
          by_cases hkn : k < n1
          · obtain ⟨x, hx, hx16, hxk⟩ := HX1.out k hkn
            obtain ⟨b10, off10, hA10, hb10, o1⟩ := (HRr.out _ _ _ G10.out).1 k hkn
            subst hA10
            rw [hx] at o1
            have HXK := Lib.hid hxk
            have hbl : Hid (bl (P ++ (l1.take k).map (fun x => (turnN x 4, 4))) ≤ 2000) := Lib.hid (by rw [bl_append, HBL.out, bl_map, List.length_take, HL1.out]; omega)
            clear hx hxk
            go_wp2_with fail
            refine (G10.out.code (y := x) (m := 4) rfl rfl (by omega) (by omega) (by have := hbl.out; omega)).mono ?_
            rintro e w11 ⟨rfl, v11, g11⟩
            have G11 := Lib.hid g11
            clear g11 d3
            go_wp2
            go_roundw
            case rel =>
              refine ⟨k + 1, v11, by go_num, by omega, Lib.hid ?_⟩
              have h := G11.out
              rw [take_snoc HXK.out, List.map_append, ← List.append_assoc]
              exact h
            case measure => simp [intOf]; omega
          · obtain rfl : k = n1 := by omega
            have G12 : Hid (rgone base w1 g v (bitN bs) Z wr v10 (P ++ l1.map (fun x => (turnN x 4, 4)))) := Lib.hid (by
              have h := G10.out
              rw [List.take_of_length_le (by rw [HL1.out]; omega)] at h
              exact h)
            have HBL2 : Hid (bl (P ++ l1.map (fun x => (turnN x 4, 4))) ≤ 2000) := Lib.hid (by rw [bl_append, HBL.out, bl_map, HL1.out]; omega)
            obtain ⟨P2, hP2⟩ : ∃ P2, P2 = P ++ l1.map (fun x => (turnN x 4, 4)) := ⟨_, rfl⟩
            rw [← hP2] at G12 HBL2
            have HP2 := Lib.hid hP2
            clear G10 G8 hP2
            go_wp2_with fail
            go_loopw [10] (fun s10 wr => ∃ (j : Nat) (v' : Value), s10 = .int .i64 (j : Int) ∧ j ≤ n2 ∧ Hid (rgone base w1 g v (bitN bs) Z wr v' (P2 ++ (l2.take j).map (fun x => (turnN x 4, 4))))) (fun s10 _ => n2 - (intOf s10).toNat)
            case atStart => exact ⟨0, v10, rfl, by omega, Lib.hid (by simpa using G12.out)⟩
            case round =>
              obtain ⟨j, v13, rfl, hj, G13⟩ := hrel
              clear d3
              have d4 := (HK.out _ _ _ G13.out).cell 4
              by_cases hjn : j < n2
              · obtain ⟨x, hx, hx16, hxk⟩ := HX2.out j hjn
                obtain ⟨b13, off13, hA13, hb13, o1⟩ := (HRr.out _ _ _ G13.out).2 j hjn
                subst hA13
                rw [hx] at o1
                have HXK := Lib.hid hxk
                have hbl : Hid (bl (P2 ++ (l2.take j).map (fun x => (turnN x 4, 4))) ≤ 4000) := Lib.hid (by have := HBL2.out; rw [bl_append, bl_map, List.length_take, HL2.out]; omega)
                clear hx hxk
                go_wp2_with fail
                refine (G13.out.code (y := x) (m := 4) rfl rfl (by omega) (by omega) (by have := hbl.out; omega)).mono ?_
                rintro e w14 ⟨rfl, v14, g14⟩
                have G14 := Lib.hid g14
                clear g14 d4
                go_wp2
                go_roundw
                case rel =>
                  refine ⟨j + 1, v14, by go_num, by omega, Lib.hid ?_⟩
                  have h := G14.out
                  rw [take_snoc HXK.out, List.map_append, ← List.append_assoc]
                  exact h
                case measure => simp [intOf]; omega
              · obtain rfl : j = n2 := by omega
                have G15 : Hid (rgone base w1 g v (bitN bs) Z wr v13 (P2 ++ l2.map (fun x => (turnN x 4, 4)))) := Lib.hid (by
                  have h := G13.out
                  rw [List.take_of_length_le (by rw [HL2.out]; omega)] at h
                  exact h)
                clear G13
                go_wp2
                go_ret
                refine ⟨rfl, v13, ?_⟩
                have h := HE.out _ _ _ G15.out
                rw [HP2.out, HP.out] at h
                simpa using h
  · go_enter Tryz.func51, Tryz.ntmps51
    go_wp2_with fail
    rw [← hw1]
    clear hw1
    refine HF.out.mono ?_
    rintro e w2 ⟨rfl, b2⟩
    have G1' := Lib.hid (G1.out.below b2)
    have d0 := (HK.out _ _ _ G1'.out).cell 0
    clear b2 G1 HF
    go_wp2_with fail
    refine (G1'.out.put (y := 1) (m := 1) rfl rfl (by omega) (by omega) (by simp [bl]; omega)).mono ?_
    rintro e w2 ⟨rfl, v2, g2⟩
    have G2 := Lib.hid g2
    clear d0
    have d1 := (HK.out _ _ _ g2).cell 1
    clear g2 G1'
    go_wp2_with fail
    refine (G2.out.put (y := 2) (m := 2) rfl rfl (by omega) (by omega) (by simp [bl]; omega)).mono ?_
    rintro e w3 ⟨rfl, v3, g3⟩
    have G3 := Lib.hid g3
    clear d1
    have d1 := (HK.out _ _ _ g3).cell 1
    have d3 := (HK.out _ _ _ g3).cell 3
    clear g3 G2
    go_wp2_with fail
    refine (G3.out.put (y := n1 - 257) (m := 5) (by omega) rfl (by omega) (by omega) (by simp [bl]; omega)).mono ?_
    rintro e w4 ⟨rfl, v4, g4⟩
    have G4 := Lib.hid g4
    clear d1 d3
    have d4 := (HK.out _ _ _ g4).cell 4
    clear g4 G3
    go_wp2_with fail
    refine (G4.out.put (y := n2 - 1) (m := 5) (by omega) rfl (by omega) (by omega) (by simp [bl]; omega)).mono ?_
    rintro e w5 ⟨rfl, v5, g5⟩
    have G5 := Lib.hid g5
    clear d4 g5 G4
    go_wp2_with fail
    refine (G5.out.put (y := 15) (m := 4) rfl rfl (by omega) (by omega) (by simp [bl]; omega)).mono ?_
    rintro e w6 ⟨rfl, v6, g6⟩
    have G6 : Hid (rgone base w1 g v (bitN bs) Z w6 v6 [(1, 1), (2, 2), (n1 - 257, 5), (n2 - 1, 5), (15, 4)]) := Lib.hid g6
    clear g6 G5
    go_wp2_with fail
    refine (order_any w6).mono ?_
    rintro e w7 ⟨rfl, k7, b7⟩
    have G7 := Lib.hid (G6.out.below b7)
    obtain ⟨bs6, t6, hl6, e6⟩ := G6.out.t
    have HO7 : Hid (∀ x, Only (own g v6) w7 x → Blk x w6.heap.size 3 (arr 19 (fun i => (ord i : Int)))) := Lib.hid (fun x o => blk_stay t6 k7 o)
    have R7 : Hid (rgone base w7 g v6 (bitN bs6) (Z + 17) w7 v6 []) := Lib.hid (by
      have h := rgone.start (rw_below t6 b7) G7.out.size
      rw [hl6, show bl [(1, 1), (2, 2), (n1 - 257, 5), (n2 - 1, 5), (15, 4)] = 17 by simp [bl]] at h
      exact h)
    have E6 := Lib.hid e6
    clear k7 b7 t6 hl6 e6 G6
    go_wp2_with fail
    go_loopw [8] (fun s8 wr => ∃ (k : Nat) (v' : Value), s8 = .int .i64 (k : Int) ∧ k ≤ 19 ∧ Hid (rgone base w7 g v6 (bitN bs6) (Z + 17) wr v' ((ords.take k).map (fun o => (c4 o, 3))))) (fun s8 _ => 19 - (intOf s8).toNat)
    case atStart => exact ⟨0, v6, rfl, by omega, Lib.hid (by simpa using R7.out)⟩
    case round =>
      obtain ⟨k, v8, rfl, hk, R8⟩ := hrel
      by_cases hk19 : k < 19
      · obtain ⟨o, ho⟩ : ∃ o, o = ord k := ⟨_, rfl⟩
        have HO := Lib.hid ho
        have kO := HO7.out wr R8.out.o
        have o1 := (kO.cell k).trans (arr_get _ hk19)
        have hlo := kO.lt
        rw [← ho] at o1
        have e19 : ords[k]? = some o := by rw [ho]; exact nth_get hk19
        have HE19 := Lib.hid e19
        have hbl : Hid (bl ((ords.take k).map (fun o => (c4 o, 3))) ≤ 60) := Lib.hid (by rw [bl_map, List.length_take, ords_length]; omega)
        clear ho kO hlo e19
        by_cases ho16 : o < 16
        · have ho16' : (o : Int) < 16 := by omega
          have HC : Hid (c4 o = 4) := Lib.hid (by unfold c4; rw [if_pos ho16])
          go_wp2_with fail
          refine (R8.out.put (y := 4) (m := 3) rfl rfl (by omega) (by omega) (by have := hbl.out; omega)).mono ?_
          rintro e w9 ⟨rfl, v9, r9⟩
          have R9 := Lib.hid r9
          clear r9
          go_wp2
          go_roundw
          case rel =>
            refine ⟨k + 1, v9, by go_num, by omega, Lib.hid ?_⟩
            have h := R9.out
            rw [take_snoc HE19.out, List.map_append]
            rw [show [o].map (fun o => (c4 o, 3)) = [(4, 3)] by simp [HC.out]]
            exact h
          case measure => simp [intOf]; omega
        · have ho16' : ¬ (o : Int) < 16 := by omega
          have HC : Hid (c4 o = 0) := Lib.hid (by unfold c4; rw [if_neg ho16])
          go_wp2_with fail
          refine (R8.out.put (y := 0) (m := 3) rfl rfl (by omega) (by omega) (by have := hbl.out; omega)).mono ?_
          rintro e w9 ⟨rfl, v9, r9⟩
          have R9 := Lib.hid r9
          clear r9
          go_wp2
          go_roundw
          case rel =>
            refine ⟨k + 1, v9, by go_num, by omega, Lib.hid ?_⟩
            have h := R9.out
            rw [take_snoc HE19.out, List.map_append]
            rw [show [o].map (fun o => (c4 o, 3)) = [(0, 3)] by simp [HC.out]]
            exact h
          case measure => simp [intOf]; omega
      · obtain rfl : k = 19 := by omega
        rw [show (((19 : Nat)) : Int) = (19 : Int) from rfl]
        have G8 : Hid (rgone base w1 g v (bitN bs) Z wr v8 ([(1, 1), (2, 2), (n1 - 257, 5), (n2 - 1, 5), (15, 4)] ++ ords.map (fun o => (c4 o, 3)))) := Lib.hid (by
          have h := R8.out
          rw [List.take_of_length_le (by rw [ords_length]; omega)] at h
          exact G7.out.trans h E6.out (by simp [bl]))
        have HBL : Hid (bl ([(1, 1), (2, 2), (n1 - 257, 5), (n2 - 1, 5), (15, 4)] ++ ords.map (fun o => (c4 o, 3))) = 74) := Lib.hid (by rw [bl_append, bl_map, ords_length]; simp [bl])
        obtain ⟨P, hP⟩ : ∃ P, P = [(1, 1), (2, 2), (n1 - 257, 5), (n2 - 1, 5), (15, 4)] ++ ords.map (fun o => (c4 o, 3)) := ⟨_, rfl⟩
        rw [← hP] at G8 HBL
        have HP := Lib.hid hP
        clear R8 R7 G7 E6 HO7 hP
        go_wp2_with fail
        go_loopw [9] (fun s9 wr => ∃ (k : Nat) (v' : Value), s9 = .int .i64 (k : Int) ∧ k ≤ n1 ∧ Hid (rgone base w1 g v (bitN bs) Z wr v' (P ++ (l1.take k).map (fun x => (turnN x 4, 4))))) (fun s9 _ => n1 - (intOf s9).toNat)
        case atStart => exact ⟨0, v8, rfl, by omega, Lib.hid (by simpa using G8.out)⟩
        case round =>
          obtain ⟨k, v10, rfl, hk, G10⟩ := hrel
          have d3 := (HK.out _ _ _ G10.out).cell 3
          by_cases hkn : k < n1
          · obtain ⟨x, hx, hx16, hxk⟩ := HX1.out k hkn
            obtain ⟨b10, off10, hA10, hb10, o1⟩ := (HRr.out _ _ _ G10.out).1 k hkn
            subst hA10
            rw [hx] at o1
            have HXK := Lib.hid hxk
            have hbl : Hid (bl (P ++ (l1.take k).map (fun x => (turnN x 4, 4))) ≤ 2000) := Lib.hid (by rw [bl_append, HBL.out, bl_map, List.length_take, HL1.out]; omega)
            clear hx hxk
            go_wp2_with fail
            refine (G10.out.code (y := x) (m := 4) rfl rfl (by omega) (by omega) (by have := hbl.out; omega)).mono ?_
            rintro e w11 ⟨rfl, v11, g11⟩
            have G11 := Lib.hid g11
            clear g11 d3
            go_wp2
            go_roundw
            case rel =>
              refine ⟨k + 1, v11, by go_num, by omega, Lib.hid ?_⟩
              have h := G11.out
              rw [take_snoc HXK.out, List.map_append, ← List.append_assoc]
              exact h
            case measure => simp [intOf]; omega
          · obtain rfl : k = n1 := by omega
            have G12 : Hid (rgone base w1 g v (bitN bs) Z wr v10 (P ++ l1.map (fun x => (turnN x 4, 4)))) := Lib.hid (by
              have h := G10.out
              rw [List.take_of_length_le (by rw [HL1.out]; omega)] at h
              exact h)
            have HBL2 : Hid (bl (P ++ l1.map (fun x => (turnN x 4, 4))) ≤ 2000) := Lib.hid (by rw [bl_append, HBL.out, bl_map, HL1.out]; omega)
            obtain ⟨P2, hP2⟩ : ∃ P2, P2 = P ++ l1.map (fun x => (turnN x 4, 4)) := ⟨_, rfl⟩
            rw [← hP2] at G12 HBL2
            have HP2 := Lib.hid hP2
            clear G10 G8 hP2
            go_wp2_with fail
            go_loopw [10] (fun s10 wr => ∃ (j : Nat) (v' : Value), s10 = .int .i64 (j : Int) ∧ j ≤ n2 ∧ Hid (rgone base w1 g v (bitN bs) Z wr v' (P2 ++ (l2.take j).map (fun x => (turnN x 4, 4))))) (fun s10 _ => n2 - (intOf s10).toNat)
            case atStart => exact ⟨0, v10, rfl, by omega, Lib.hid (by simpa using G12.out)⟩
            case round =>
              obtain ⟨j, v13, rfl, hj, G13⟩ := hrel
              clear d3
              have d4 := (HK.out _ _ _ G13.out).cell 4
              by_cases hjn : j < n2
              · obtain ⟨x, hx, hx16, hxk⟩ := HX2.out j hjn
                obtain ⟨b13, off13, hA13, hb13, o1⟩ := (HRr.out _ _ _ G13.out).2 j hjn
                subst hA13
                rw [hx] at o1
                have HXK := Lib.hid hxk
                have hbl : Hid (bl (P2 ++ (l2.take j).map (fun x => (turnN x 4, 4))) ≤ 4000) := Lib.hid (by have := HBL2.out; rw [bl_append, bl_map, List.length_take, HL2.out]; omega)
                clear hx hxk
                go_wp2_with fail
                refine (G13.out.code (y := x) (m := 4) rfl rfl (by omega) (by omega) (by have := hbl.out; omega)).mono ?_
                rintro e w14 ⟨rfl, v14, g14⟩
                have G14 := Lib.hid g14
                clear g14 d4
                go_wp2
                go_roundw
                case rel =>
                  refine ⟨j + 1, v14, by go_num, by omega, Lib.hid ?_⟩
                  have h := G14.out
                  rw [take_snoc HXK.out, List.map_append, ← List.append_assoc]
                  exact h
                case measure => simp [intOf]; omega
              · obtain rfl : j = n2 := by omega
                have G15 : Hid (rgone base w1 g v (bitN bs) Z wr v13 (P2 ++ l2.map (fun x => (turnN x 4, 4)))) := Lib.hid (by
                  have h := G13.out
                  rw [List.take_of_length_le (by rw [HL2.out]; omega)] at h
                  exact h)
                clear G13
                go_wp2
                go_ret
                refine ⟨rfl, v13, ?_⟩
                have h := HE.out _ _ _ G15.out
                rw [HP2.out, HP.out] at h
                simpa using h
end
end Go.Proofs.YtnkninjdpgpkmaaGreatDoor.Mc
namespace Go.Proofs.YtnkninjdpgpkmaaGreatDoor.Md
open Go.RowKit Go.Proofs.YtnkninjdpgpkmaaGreatDoor.Vm Go.Proofs.YtnkninjdpgpkmaaGreatDoor.Vo Go.Proofs.YtnkninjdpgpkmaaGreatDoor.Bm Go.Proofs.YtnkninjdpgpkmaaGreatDoor.Bt Go.Proofs.YtnkninjdpgpkmaaGreatDoor.Bw Go.Proofs.YtnkninjdpgpkmaaGreatDoor.Bp Go.Proofs.YtnkninjdpgpkmaaGreatDoor.Bs Go.Proofs.YtnkninjdpgpkmaaGreatDoor.Bv Go.Proofs.YtnkninjdpgpkmaaGreatDoor.Bx Go.Proofs.YtnkninjdpgpkmaaGreatDoor.Na Go.Proofs.YtnkninjdpgpkmaaGreatDoor.Nf Go.Proofs.YtnkninjdpgpkmaaGreatDoor.Nm Go.Proofs.YtnkninjdpgpkmaaGreatDoor.Ni Go.Proofs.YtnkninjdpgpkmaaGreatDoor.Ne Go.Proofs.YtnkninjdpgpkmaaGreatDoor.Nh Go.Proofs.YtnkninjdpgpkmaaGreatDoor.Pm Go.Proofs.YtnkninjdpgpkmaaGreatDoor.Pw Go.Proofs.YtnkninjdpgpkmaaGreatDoor.Pi Go.Proofs.YtnkninjdpgpkmaaGreatDoor.Ko Go.Proofs.YtnkninjdpgpkmaaGreatDoor.Ka Go.Proofs.YtnkninjdpgpkmaaGreatDoor.Kb Go.Proofs.YtnkninjdpgpkmaaGreatDoor.Km Go.Proofs.YtnkninjdpgpkmaaGreatDoor.Kw Go.Proofs.YtnkninjdpgpkmaaGreatDoor.Ks Go.Proofs.YtnkninjdpgpkmaaGreatDoor.Kc Go.Proofs.YtnkninjdpgpkmaaGreatDoor.Kd Go.Proofs.YtnkninjdpgpkmaaGreatDoor.Ke Go.Proofs.YtnkninjdpgpkmaaGreatDoor.Ky Go.Proofs.YtnkninjdpgpkmaaGreatDoor.Kx Go.Proofs.YtnkninjdpgpkmaaGreatDoor.Ku Go.Proofs.YtnkninjdpgpkmaaGreatDoor.Kh Go.Proofs.YtnkninjdpgpkmaaGreatDoor.Be Go.Proofs.YtnkninjdpgpkmaaGreatDoor.Ki Go.Proofs.YtnkninjdpgpkmaaGreatDoor.Kl Go.Proofs.YtnkninjdpgpkmaaGreatDoor.Kn Go.Proofs.YtnkninjdpgpkmaaGreatDoor.Ma Go.Proofs.YtnkninjdpgpkmaaGreatDoor.Mb Go.Proofs.YtnkninjdpgpkmaaGreatDoor.Mc

section
variable {base : Nat} {w : World} {g z0 : Nat} {v : Value} {bs : List UInt8} {b : Bool} {k z : Int} {A1 A2 : Option Addr} {n1 c1 n2 c2 : Nat} {f1 f2 : Nat → Int}
theorem rWrite_any (HW : Hid (rw' base w g v bs)) (hz0 : bs.length = z0) (hb : base ≤ w.heap.size) (hz : z0 ≤ 100000000) (HR : Hid (∀ x, Only (own g v) w x → row x A1 n1 f1 ∧ row x A2 n2 f2)) :
    Calls Tryz.prog 51 #[.pointer (some ⟨g, 0, none⟩), hv b k z (.slice A1 n1 c1) (.slice A2 n2 c2)] w fun e w' => e = .returned (.int .i64 (wrM k z n1 f1 n2 f2)) ∧ ∃ v', rgone base w g v (bitN bs) z0 w' v' (wrO b k z n1 f1 n2 f2 z0) := by
  have HS : ∀ w', Below w.heap.size w w' → rgone base w g v (bitN bs) z0 w' v [] := fun w' hw => by
    have := (rgone.start HW.out hb).below hw
    rw [hz0] at this
    exact this
  have hno : wrM k z n1 f1 n2 f2 ≠ 0 → wrO b k z n1 f1 n2 f2 z0 = [] := fun h => by unfold wrO; rw [if_neg h]
  by_cases hbad : k < 0 ∨ 2 < k ∨ (k = 0 ∧ z < 0) ∨ (k = 0 ∧ 0 ≤ z ∧ 65535 < z) ∨ (k = 2 ∧ n1 < 257) ∨ (k = 2 ∧ 257 ≤ n1 ∧ 286 < n1) ∨ (k = 2 ∧ 257 ≤ n1 ∧ n1 ≤ 286 ∧ n2 < 1) ∨ (k = 2 ∧ 257 ≤ n1 ∧ n1 ≤ 286 ∧ 1 ≤ n2 ∧ 30 < n2)
  · have h1 : wrM k z n1 f1 n2 f2 = 1 := by
      unfold wrM
      by_cases c1 : k < 0 ∨ 2 < k ∨ k = 0 ∧ (z < 0 ∨ 65535 < z)
      · rw [if_pos c1]
      · rw [if_neg c1, if_pos (by omega), if_pos (by omega)]
    rw [hno (by rw [h1]; decide), h1]
    exact (rWrite_no hbad).mono (fun e w' ⟨he, hb'⟩ => ⟨he, v, HS w' hb'⟩)
  · rcases (show k = 0 ∨ k = 1 ∨ k = 2 by omega) with hk | hk | hk
    · subst hk
      obtain ⟨n, rfl⟩ := Int.eq_ofNat_of_zero_le (show 0 ≤ z by omega)
      have h0 : wrM 0 (n : Int) n1 f1 n2 f2 = 0 := by unfold wrM; rw [if_neg (by omega), if_neg (by omega)]
      have ho : wrO b 0 (n : Int) n1 f1 n2 f2 z0 = [(b.toNat, 1), (0, 2), (0, padZ (z0 + 3)), (n, 16), (65535 - n, 16)] := by
        unfold wrO; rw [if_pos h0]; rfl
      rw [h0, ho]
      exact rWrite_sto (by omega) HW hz0 hb hz
    · subst hk
      have h0 : wrM 1 z n1 f1 n2 f2 = 0 := by unfold wrM; rw [if_neg (by omega), if_neg (by omega)]
      have ho : wrO b 1 z n1 f1 n2 f2 z0 = [(b.toNat, 1), (1, 2)] := by
        unfold wrO; rw [if_pos h0]; rfl
      rw [h0, ho]
      exact rWrite_fix HW hz0 hb hz
    · subst hk
      have h0 : wrM 2 z n1 f1 n2 f2 = fitsI n1 f1 n2 f2 := by unfold wrM; rw [if_neg (by omega), if_pos rfl, if_neg (by omega)]
      by_cases hf : fitsI n1 f1 n2 f2 = 0
      · obtain ⟨_, _, _, _, hdy⟩ := wr_ok (kind := 2) (size := z) (n := n1) (f := f1) (m := n2) (g := f2) b (h0.trans hf)
        obtain ⟨q1, q2, q3, q4, q5, q6⟩ := hdy rfl
        have ho : wrO b 2 z n1 f1 n2 f2 z0 = [(b.toNat, 1), (2, 2)] ++ outD (L n1 f1) (L n2 f2) := by
          unfold wrO; rw [if_pos (h0.trans hf)]; rfl
        rw [h0.trans hf, ho]
        exact rWrite_dyn q3 q4 q5 q6 q1 q2 hf HW hz0 hb hz HR
      · rw [hno (by rw [h0]; exact hf), h0]
        have hr := HR.out w (Only.refl _ _)
        refine (rWrite_unfit (by omega) (by omega) (by omega) (by omega) hf (Lib.hid (fun u hu => rfits_any (by omega) (by omega) (by omega) (Lib.hid (hr.1.below hu)) (Lib.hid (hr.2.below hu))))).mono (fun e w' ⟨he, hb'⟩ => ⟨he, v, HS w' hb'⟩)
end
end Go.Proofs.YtnkninjdpgpkmaaGreatDoor.Md
