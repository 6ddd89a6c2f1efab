/-
  bitrow's writer: the loop that appends bits, called with a writer that Open made: the bits behind it; of what was there only the writer and its bytes have changed.
  bitrow's Open and the writer's methods, called with a writer that Open made: their results, the bits behind them; of what was there only the writer and its bytes have changed.
  Conditions: as each theorem says.
-/
import Derived.Test.YtnkninjdpgpkmaaGreatDoorBas
import Derived.Test.YtnkninjdpgpkmaaGreatDoorBai
import Derived.Test.YtnkninjdpgpkmaaGreatDoorBao
import Derived.Maps.AppendAt
import Derived.BigRegion
import Derived.Test.YtnkninjdpgpkmaaGreatDoorBap
namespace Go.Proofs.YtnkninjdpgpkmaaGreatDoor.Bv
open Go.RowKit Go.Proofs.YtnkninjdpgpkmaaGreatDoor.Vm Go.Proofs.YtnkninjdpgpkmaaGreatDoor.Vo Go.Proofs.YtnkninjdpgpkmaaGreatDoor.Bm Go.Proofs.YtnkninjdpgpkmaaGreatDoor.Bo Go.Proofs.YtnkninjdpgpkmaaGreatDoor.Bt Go.Proofs.YtnkninjdpgpkmaaGreatDoor.Bw Go.Proofs.YtnkninjdpgpkmaaGreatDoor.Br

/-- A writer at block g whose slice of bytes is v, with z bits. -/
def wb (w : World) (g : Nat) (v : Value) (z : Nat) : Prop := Blk w g 139 #[.pointer (some ⟨g, 0, none⟩), v, .int .i64 z]
/-- .. its bytes are l. -/
structure wt (base : Nat) (w : World) (g : Nat) (v : Value) (l : List UInt8) (z : Nat) : Prop where
  b : wb w g v z
  o : w.ownsRow base 5 1 v l.length (Bs l)
  lt : num l < 2 ^ z
  len : l.length = (z + 7) / 8
/-- What such a writer may write. -/
def own (g : Nat) (v : Value) (k : Nat) : Prop := k = g ∨ v.ownBlock = some k

section
variable {w w' : World} {g : Nat} {v : Value} {z : Nat}
theorem wb.c0 (h : wb w g v z) : w.cell? ⟨g, 0, none⟩ = some (.pointer (some ⟨g, 0, none⟩)) := Blk.cell h 0
theorem wb.c1 (h : wb w g v z) : w.cell? ⟨g, 1, none⟩ = some v := Blk.cell h 1
theorem wb.c2 (h : wb w g v z) : w.cell? ⟨g, 2, none⟩ = some (.int .i64 z) := Blk.cell h 2
theorem wb.f1 (h : wb w g v z) : w.frozen? ⟨g, 1, none⟩ = false := Blk.frozen h 1
theorem wb.f2 (h : wb w g v z) : w.frozen? ⟨g, 2, none⟩ = false := Blk.frozen h 2
theorem wb.bytes (h : wb w g v z) (v' : Value) : wb (w.setCell ⟨g, 1, none⟩ v') g v' z := Blk.store h 1 _
theorem wb.size (h : wb w g v z) {y : Nat} {x : Int} (hx : x = (y : Int)) : wb (w.setCell ⟨g, 2, none⟩ (.int .i64 x)) g v y := by subst hx; exact Blk.store h 2 _
theorem wb.only {S : Nat → Prop} (h : wb w g v z) (k : Only S w w') (hg : ¬ S g) : wb w' g v z := Blk.only h k hg
end

theorem infoW : (Tryz.prog.info? 139).isSome = true := by kernel_rfl
theorem info8 : (Tryz.prog.info? 5).map (fun i => (i.zero, i.size, i.bytes)) = some (some (.int .u8 0), 1, 1) := by kernel_rfl
theorem wNone_nil (w : World) : Calls Tryz.prog 83 #[.pointer none] w fun e w' => e = .returned (.bool true) ∧ w = w' := by
  go_enter Tryz.func83, Tryz.ntmps83
  go_wp2
  go_ret
  exact ⟨rfl, rfl⟩
theorem wNone_any {w : World} {g : Nat} {v : Value} {z : Nat} (h : wb w g v z) : Calls Tryz.prog 83 #[.pointer (some ⟨g, 0, none⟩)] w fun e w' => e = .returned (.bool false) ∧ w = w' := by
  have c0 := h.c0
  obtain ⟨j, hj⟩ := Option.isSome_iff_exists.1 infoW
  have he := run_neq_same w ⟨g, 0, none⟩ Tryz.underlying99 hj
  clear hj
  go_enter Tryz.func83, Tryz.ntmps83
  go_wp2
  go_ret
  exact ⟨rfl, rfl⟩

theorem row_last {w : World} {base b cap p : Nat} {r : List UInt8} {c : UInt8} (h : w.ownsRow base 5 1 (.slice (some ⟨b, 0, none⟩) (p + 1) cap) (p + 1) (Bs (r ++ [c]))) (hp : r.length = p) :
    w.cell? ⟨b, p, none⟩ = some (.int .u8 (c.toNat : Int)) := by
  rw [h.cellAt p (by omega)]
  subst hp
  simp [Bs, B]
theorem i64_at (n : Int) (m : Nat) (h : n = (m : Int)) (hm : m ≤ 9223372036854775807) : IntKind.i64.wrap n = (m : Int) := by
  subst h
  rw [IntWalk.i64_left]
  exact wrap64_in (by omega) (by omega)

theorem row_set {w : World} {base b cap p : Nat} {r : List UInt8} {c d : UInt8} (h : w.ownsRow base 5 1 (.slice (some ⟨b, 0, none⟩) (p + 1) cap) (p + 1) (Bs (r ++ [c]))) (hp : r.length = p) :
    (w.setCell ⟨b, p, none⟩ (.int .u8 (d.toNat : Int))).ownsRow base 5 1 (.slice (some ⟨b, 0, none⟩) (p + 1) cap) (p + 1) (Bs (r ++ [d])) := by
  have h1 := h.stored p (.int .u8 (d.toNat : Int))
  have h2 := set_mid r c d []
  rw [hp] at h2
  rw [show Value.int .u8 (d.toNat : Int) = B d from rfl, h2] at h1
  exact (by simpa using h1.1 : (w.setCell ⟨b, p, none⟩ (B d)).ownsRow base 5 1 (.slice (some ⟨b, 0, none⟩) (p + 1) cap) (p + 1) (Bs (r ++ [d])))
theorem or_wrap (c d : UInt8) (y u : Nat) (hu : u < 8) (hy : y < 4294967296) (h : c.toNat ||| y * 2 ^ u % 256 = d.toNat) : bits .or .u8 (c.toNat : Int) (wrap64 ((y : Int) * 2 ^ u) % 256) = (d.toNat : Int) := by
  have h1 := shl_fits y u hu hy
  rw [wrap64_in (by omega) h1.2, ← IntKind.wrap_u8', shl_byte, u8_or_nat _ _ (UInt8.toNat_lt c) (Nat.mod_lt _ (by decide)), h]
theorem or_wrap0 (c d : UInt8) (y : Nat) (h : c.toNat ||| y * 2 ^ 0 % 256 = d.toNat) : bits .or .u8 (c.toNat : Int) ((y : Int) % 256) = (d.toNat : Int) := by
  rw [Nat.pow_zero, Nat.mul_one] at h
  rw [show (y : Int) % 256 = ((y % 256 : Nat) : Int) by omega, u8_or_nat _ _ (UInt8.toNat_lt c) (Nat.mod_lt _ (by decide)), h]

/-- Where a row lies behind an append. -/
def later (w : World) (v v' : Value) : Prop := v'.ownBlock = v.ownBlock ∨ ∃ k, w.heap.size ≤ k ∧ v'.ownBlock = some k

theorem own_of {w : World} {g : Nat} {v v' : Value} (h : later w v v') (b : Nat) (hb : v'.ownBlock = some b) : own g v b ∨ w.heap.size ≤ b := by
  rcases h with h | ⟨k, hk, h⟩
  · exact .inl (.inr (by rw [← h, hb]))
  · rw [hb] at h; injection h with h; exact .inr (by omega)

theorem round_end {base : Nat} {w w4 : World} {g b p cap : Nat} {v : Value} {l r : List UInt8} {c d : UInt8} {x n z t Z y m T : Nat} {X Y Q : Int} (HZ : Hid (z + t = Z))
    (B4 : Hid (wb w4 g (.slice (some ⟨b, 0, none⟩) (p + 1) cap) Z)) (O4 : Hid (w4.ownsRow base 5 1 (.slice (some ⟨b, 0, none⟩) (p + 1) cap) (p + 1) (Bs (r ++ [d])))) (o4 : Hid (Only (own g v) w w4)) (la : later w v (.slice (some ⟨b, 0, none⟩) (p + 1) cap))
    (S4 : Hid (num (r ++ [d]) + y / 2 ^ T * 2 ^ (Z + T) = num (r ++ [c]) + y * 2 ^ Z)) (S3 : Hid (num (r ++ [c]) + y * 2 ^ Z = num l + x * 2 ^ z)) (L4 : Hid (num (r ++ [d]) < 2 ^ (Z + T))) (N4 : Hid ((r ++ [d]).length = (Z + T + 7) / 8)) (Y4 : Hid (y / 2 ^ T < 2 ^ (m - T)))
    (hbg : b ≠ g) (hrp : r.length = p) (hm : m - T + (t + T) = n) (hX : X = ((Z + T : Nat) : Int)) (hQ : Q = ((m - T : Nat) : Int)) (hY : Y = ((y / 2 ^ T : Nat) : Int)) :
    ∃ (y1 m1 t1 : Nat) (v1 : Value) (l1 : List UInt8), Value.int .i64 Y = .int .i64 y1 ∧ Value.int .i64 Q = .int .i64 m1 ∧ m1 + t1 = n ∧ Hid (y1 < 2 ^ m1) ∧ Hid (wt base (w4.setCell ⟨g, 2, none⟩ (.int .i64 X)) g v1 l1 (z + t1)) ∧ Hid (num l1 + y1 * 2 ^ (z + t1) = num l + x * 2 ^ z) ∧ Only (own g v) w (w4.setCell ⟨g, 2, none⟩ (.int .i64 X)) ∧ later w v v1 := by
  have e : z + (t + T) = Z + T := by have := HZ.out; omega
  refine ⟨y / 2 ^ T, m - T, t + T, _, r ++ [d], by rw [hY], by rw [hQ], hm, Y4, Lib.hid ⟨?_, ?_, ?_, ?_⟩, Lib.hid ?_, o4.out.store (.inl (.inl rfl)) _, la⟩
  · rw [e]; exact B4.out.size hX
  · have h := own_only O4.out ((Only.refl (fun k => k = g) w4).store (p := ⟨g, 2, none⟩) (.inl rfl) (.int .i64 X)) (fun i hi e => hbg (by simp [Value.ownBlock] at hi; subst hi; exact e))
    have hlen : (r ++ [d]).length = p + 1 := by simp [hrp]
    rw [hlen]; exact h
  · rw [e]; exact L4.out
  · rw [e]; exact N4.out
  · rw [e, S4.out, S3.out]

set_option maxHeartbeats 4000000 in
set_option maxRecDepth 100000 in
theorem lowest_any (base : Nat) {w : World} {g : Nat} {v : Value} {l : List UInt8} {z : Nat} (x n : Nat) (h : wt base w g v l z) (hb : base ≤ w.heap.size) (hx : x < 2 ^ n) (hn : n ≤ 32) (hz : z ≤ 562949953421312) :
    Calls Tryz.prog 139 #[.pointer (some ⟨g, 0, none⟩), .int .i64 x, .int .i64 n] w fun e w' => e = .returned (.tuple #[]) ∧ ∃ v' l', wt base w' g v' l' (z + n) ∧ num l' = num l + x * 2 ^ z ∧ Only (own g v) w w' ∧ later w v v' := by
  obtain ⟨i0, hi, hz0, hz1, hz2⟩ := info_parts info8
  have H := Lib.hid h
  have HX := Lib.hid hx
  clear h hx
  go_enter Tryz.func139, Tryz.ntmps139
  go_wp2
  go_loopw [1, 2] (fun s1 s2 wr => ∃ (y m t : Nat) (v1 : Value) (l1 : List UInt8), s1 = .int .i64 y ∧ s2 = .int .i64 m ∧ m + t = n ∧ Hid (y < 2 ^ m) ∧ Hid (wt base wr g v1 l1 (z + t)) ∧ Hid (num l1 + y * 2 ^ (z + t) = num l + x * 2 ^ z) ∧ Only (own g v) w wr ∧ later w v v1)
    (fun _ s2 _ => (intOf s2).toNat)
  case atStart => exact ⟨x, n, 0, v, l, rfl, rfl, rfl, HX, H, Lib.hid rfl, Only.refl _ _, .inl rfl⟩
  case round =>
    obtain ⟨y, m, t, v1, l1, rfl, rfl, hmt, HY, HT, HS, o1, la⟩ := hrel
    by_cases hm : 0 < m
    · generalize hZ : z + t = Z at *
      have HZ := Lib.hid hZ
      have hZb : Z ≤ 562949953421344 := by omega
      have hy32 : y < 4294967296 := Nat.lt_of_lt_of_le HY.out (show 2 ^ m ≤ 2 ^ 32 from Nat.pow_le_pow_right (by omega) (by omega))
      obtain ⟨u, hu, hu8, HU⟩ : ∃ u : Nat, (Z : Int) % 8 = (u : Int) ∧ u < 8 ∧ Hid (Z = 8 * (Z / 8) + u) := ⟨Z % 8, by omega, by omega, Lib.hid (by omega)⟩
      obtain ⟨p, HP⟩ : ∃ p, Hid (Z = 8 * p + u) := ⟨Z / 8, HU⟩
      clear hZ HU
      have c2 := HT.out.b.c2
      by_cases h0 : u = 0
      · have hl1 : l1.length = p := by have := HT.out.len; have := HP.out; omega
        have hu0 : (Z : Int) % 8 = 0 := by omega
        have c1 := HT.out.b.c1
        have HL1 := Lib.hid hl1
        have HO : wr.ownsRow base 5 1 v1 p (Bs l1) := by have h := HT.out.o; rw [hl1] at h; exact h
        have hbw : base ≤ wr.heap.size := Nat.le_trans hb o1.size
        have hpb' : p ≤ 70368744177668 := by have := HP.out; omega
        clear hl1 hu
        go_wp2_with (at_builtin; refine wpList_append_own_at _ rfl _ _ 62 rfl base 5 i0 (.int .u8 0) 1 1 Tryz.underlying62 hi hz0 hz1 hz2 rfl (by decide) v1 p (Bs l1) rfl (HO.alloc _) ⟨wr.heap.size, 0, none⟩ 1 1 [.int .u8 0] rfl rfl (cell_one_new _ _ _) ?a2 ?a3 ?a4 ?a5 ?_)
        case a2 => intro q hq; simp at hq; subst hq; rfl
        case a3 => unfold maxLen; omega
        case a4 => omega
        case a5 => simp; omega
        intro v2 w2 hown2 hgrow _ hloc
        have hvg : ∀ i, v1.ownBlock = some i → i ≠ g := own_apart HO HT.out.b (by decide)
        have o2 : Only (own g v) w w2 := (o1.alloc _).grown hgrow (fun i hi hlt => by
          rcases own_of (g := g) la i hi with h | h
          · exact h
          · omega)
        have B2 : wb w2 g v1 Z := HT.out.b.only (((Only.refl (fun k => v1.ownBlock = some k) wr).alloc _).grown hgrow (fun i hi _ => hi)) (fun e => hvg g e rfl)
        obtain ⟨b, cap, HV⟩ : ∃ b cap, Hid (v2 = .slice (some ⟨b, 0, none⟩) (p + 1) cap) := by
          rcases hown2.2 with ⟨_, e⟩ | ⟨b, cap, _, e, _⟩
          · omega
          · exact ⟨b, cap, Lib.hid e⟩
        have hv2 := HV.out
        subst hv2
        have la2 : later w v (.slice (some ⟨b, 0, none⟩) (p + 1) cap) := by
          rcases hloc with h | h
          · rcases la with l | ⟨k, hk, l⟩
            · exact .inl (h.trans l)
            · exact .inr ⟨k, hk, h.trans l⟩
          · refine .inr ⟨_, ?_, h⟩
            have := o1.size
            simp; omega
        have hbg : b ≠ g := own_apart hown2 B2 (by decide) b rfl
        have k1 := B2.c1
        have g1 := B2.f1
        have la3 := la2
        have B3 : Hid (wb (w2.setCell ⟨g, 1, none⟩ (.slice (some ⟨b, 0, none⟩) (p + 1) cap)) g (.slice (some ⟨b, 0, none⟩) (p + 1) cap) Z) := Lib.hid (B2.bytes _)
        have O3 : Hid ((w2.setCell ⟨g, 1, none⟩ (.slice (some ⟨b, 0, none⟩) (p + 1) cap)).ownsRow base 5 1 (.slice (some ⟨b, 0, none⟩) (p + 1) cap) (p + 1) (Bs (l1 ++ [0]))) := Lib.hid (by
          have h := own_only hown2 ((Only.refl (fun k => k = g) w2).store (p := ⟨g, 1, none⟩) (.inl rfl) (.slice (some ⟨b, 0, none⟩) (p + 1) cap)) (fun i hi e => hbg (by simp [Value.ownBlock] at hi; subst hi; exact e))
          rw [← Bs_snoc]; exact h)
        have O3' : Hid (Only (own g v) w (w2.setCell ⟨g, 1, none⟩ (.slice (some ⟨b, 0, none⟩) (p + 1) cap))) := Lib.hid (o2.store (.inl (.inl rfl)) _)
        have n0 : num (l1 ++ [0]) = num l1 := by rw [num_snoc]; simp
        have S3 : Hid (num (l1 ++ [0]) + y * 2 ^ Z = num l + x * 2 ^ z) := Lib.hid (by rw [n0]; exact HS.out)
        have L3 : Hid (num (l1 ++ [0]) < 2 ^ Z) := Lib.hid (by rw [n0]; exact HT.out.lt)
        have hrp : l1.length = p := HL1.out
        obtain ⟨r, c, HR, HC⟩ : ∃ r c, Hid (r = l1) ∧ Hid (c = (0 : UInt8)) := ⟨l1, 0, Lib.hid rfl, Lib.hid rfl⟩
        rw [← HR.out, ← HC.out] at O3 S3 L3
        rw [← HR.out] at hrp
        clear hown2 hgrow hloc hvg o2 la HO HL1 HT HS n0 c1 c2 o1 HV la2 hbg
        go_wp2_with fail
        clear k1 g1 B2
        have o3 := O3'.out
        clear O3'
        generalize w2.setCell ⟨g, 1, none⟩ (.slice (some ⟨b, 0, none⟩) (p + 1) cap) = w3 at *
        subst h0
        -- from the last byte on
        have k1 := B3.out.c1
        have hcb : w3.cell? ⟨b, p, none⟩ = some (.int .u8 (c.toNat : Int)) := row_last O3.out hrp
        have hfb : w3.frozen? ⟨b, p, none⟩ = false := O3.out.frozenAt p
        have hpb : p ≤ 562949953421344 := by have := HP.out; omega
        have e1 : IntKind.i64.wrap (p : Int) = (p : Int) := i64_at _ _ (by omega) (by omega)
        have i1 : (0 : Int) ≤ (p : Int) := by omega
        have i2 : (p : Int) < (p : Int) + 1 := by omega
        obtain ⟨d, ha, H2, H3, H4, H5, hT, hT1⟩ := Bo.put_round r c y m Z 0 (min (8 - 0) m) (by rw [hrp]; exact HP.out) (by omega) L3.out HY.out hm rfl
        have a1 := or_wrap0 c d y ha
        have S4 := Lib.hid H2; have L4 := Lib.hid H3; have N4 := Lib.hid H4; have Y4 := Lib.hid H5
        have hbg : b ≠ g := own_apart O3.out B3.out (by decide) b rfl
        have B4 : Hid (wb (w3.setCell ⟨b, p, none⟩ (.int .u8 (d.toNat : Int))).drew g (.slice (some ⟨b, 0, none⟩) (p + 1) cap) Z) := Lib.hid (B3.out.only (((Only.refl (fun k => k = b) _).store (.inl rfl) _).drew) (fun e => hbg e.symm))
        have O4 : Hid ((w3.setCell ⟨b, p, none⟩ (.int .u8 (d.toNat : Int))).drew.ownsRow base 5 1 (.slice (some ⟨b, 0, none⟩) (p + 1) cap) (p + 1) (Bs (r ++ [d]))) := Lib.hid (row_set O3.out hrp)
        have o4 : Hid (Only (own g v) w (w3.setCell ⟨b, p, none⟩ (.int .u8 (d.toNat : Int))).drew) := Lib.hid ((o3.store (own_of la3 b rfl) _).drew)
        clear ha H2 H3 H4 H5
        go_wp2_with fail
        go_region
        clear k1 hcb hfb e1 i1 i2 a1 o3
        generalize (w3.setCell ⟨b, p, none⟩ (.int .u8 (d.toNat : Int))).drew = w4 at *
        have k2 := B4.out.c2
        have g2 := B4.out.f2
        by_cases h8 : 8 - 0 ≤ m
        · rw [Nat.min_eq_left h8] at S4 L4 N4 Y4
          obtain ⟨T, hT0⟩ : ∃ T : Nat, 8 - 0 = T := ⟨_, rfl⟩
          have hT' : (8 : Int) = (T : Int) := by omega
          have h8' : (T : Int) ≤ (m : Int) := by omega
          have hT8 : T ≤ 8 := by omega
          rw [hT0] at S4 L4 N4 Y4
          clear hT0 h8 hT hT1
          go_wp2
          go_roundw
          case rel => exact round_end (T := T) HZ B4 O4 o4 la3 S4 S3 L4 N4 Y4 hbg hrp (by omega) (by go_num) (by go_num) (by simp)
          case measure => simp [intOf]; omega
        · rw [Nat.min_eq_right (by omega)] at S4 L4 N4 Y4
          have h8' : (m : Int) < (8 : Int) := by omega
          go_wp2
          go_roundw
          case rel => exact round_end (T := m) HZ B4 O4 o4 la3 S4 S3 L4 N4 Y4 hbg hrp (by omega) (by go_num) (by go_num) (by simp)
          case measure => simp [intOf]; omega
      · have hl1 : l1.length = p + 1 := by have := HT.out.len; have := HP.out; omega
        obtain ⟨r, c, HL, hrp⟩ : ∃ r c, Hid (l1 = r ++ [c]) ∧ r.length = p := by
          obtain ⟨r, c, h1, h2⟩ := last_of l1 p hl1
          exact ⟨r, c, Lib.hid h1, h2⟩
        obtain ⟨b, cap, HV⟩ : ∃ b cap, Hid (v1 = .slice (some ⟨b, 0, none⟩) (p + 1) cap) := by
          rcases HT.out.o.2 with ⟨_, e⟩ | ⟨b, cap, _, e, _⟩
          · omega
          · exact ⟨b, cap, Lib.hid (by rw [hl1] at e; exact e)⟩
        have B3 : Hid (wb wr g (.slice (some ⟨b, 0, none⟩) (p + 1) cap) Z) := Lib.hid (by rw [← HV.out]; exact HT.out.b)
        have O3 : Hid (wr.ownsRow base 5 1 (.slice (some ⟨b, 0, none⟩) (p + 1) cap) (p + 1) (Bs (r ++ [c]))) := Lib.hid (by
          have h := HT.out.o
          rw [hl1, HL.out, HV.out] at h
          exact h)
        have S3 : Hid (num (r ++ [c]) + y * 2 ^ Z = num l + x * 2 ^ z) := Lib.hid (by rw [← HL.out]; exact HS.out)
        have L3 : Hid (num (r ++ [c]) < 2 ^ Z) := Lib.hid (by rw [← HL.out]; exact HT.out.lt)
        rw [HV.out] at la
        have h00 : ((u : Int) == 0) = false := by simp; omega
        have o3 := o1
        have la3 := la
        clear c2 HT HS HL HV hl1 o1 la
        have c2 := B3.out.c2
        generalize wr = w3 at *
        -- from the last byte on
        have k1 := B3.out.c1
        have hcb : w3.cell? ⟨b, p, none⟩ = some (.int .u8 (c.toNat : Int)) := row_last O3.out hrp
        have hfb : w3.frozen? ⟨b, p, none⟩ = false := O3.out.frozenAt p
        have hpb : p ≤ 562949953421344 := by have := HP.out; omega
        have e1 : IntKind.i64.wrap (p : Int) = (p : Int) := i64_at _ _ (by omega) (by omega)
        have i1 : (0 : Int) ≤ (p : Int) := by omega
        have i2 : (p : Int) < (p : Int) + 1 := by omega
        obtain ⟨d, ha, H2, H3, H4, H5, hT, hT1⟩ := Bo.put_round r c y m Z u (min (8 - u) m) (by rw [hrp]; exact HP.out) hu8 L3.out HY.out hm rfl
        have a1 := or_wrap c d y u hu8 hy32 ha
        have S4 := Lib.hid H2; have L4 := Lib.hid H3; have N4 := Lib.hid H4; have Y4 := Lib.hid H5
        have hbg : b ≠ g := own_apart O3.out B3.out (by decide) b rfl
        have B4 : Hid (wb (w3.setCell ⟨b, p, none⟩ (.int .u8 (d.toNat : Int))).drew g (.slice (some ⟨b, 0, none⟩) (p + 1) cap) Z) := Lib.hid (B3.out.only (((Only.refl (fun k => k = b) _).store (.inl rfl) _).drew) (fun e => hbg e.symm))
        have O4 : Hid ((w3.setCell ⟨b, p, none⟩ (.int .u8 (d.toNat : Int))).drew.ownsRow base 5 1 (.slice (some ⟨b, 0, none⟩) (p + 1) cap) (p + 1) (Bs (r ++ [d]))) := Lib.hid (row_set O3.out hrp)
        have o4 : Hid (Only (own g v) w (w3.setCell ⟨b, p, none⟩ (.int .u8 (d.toNat : Int))).drew) := Lib.hid ((o3.store (own_of la3 b rfl) _).drew)
        clear ha H2 H3 H4 H5
        go_wp2_with fail
        go_region
        clear k1 hcb hfb e1 i1 i2 a1 o3
        generalize (w3.setCell ⟨b, p, none⟩ (.int .u8 (d.toNat : Int))).drew = w4 at *
        have k2 := B4.out.c2
        have g2 := B4.out.f2
        by_cases h8 : 8 - u ≤ m
        · rw [Nat.min_eq_left h8] at S4 L4 N4 Y4
          obtain ⟨T, hT0⟩ : ∃ T : Nat, 8 - u = T := ⟨_, rfl⟩
          have hT' : (8 : Int) - (u : Int) = (T : Int) := by omega
          have h8' : (T : Int) ≤ (m : Int) := by omega
          have hT8 : T ≤ 8 := by omega
          rw [hT0] at S4 L4 N4 Y4
          clear hT0 h8 hT hT1
          go_wp2
          go_roundw
          case rel => exact round_end (T := T) HZ B4 O4 o4 la3 S4 S3 L4 N4 Y4 hbg hrp (by omega) (by go_num) (by go_num) (by simp)
          case measure => simp [intOf]; omega
        · rw [Nat.min_eq_right (by omega)] at S4 L4 N4 Y4
          have h8' : (m : Int) < (8 : Int) - (u : Int) := by omega
          go_wp2
          go_roundw
          case rel => exact round_end (T := m) HZ B4 O4 o4 la3 S4 S3 L4 N4 Y4 hbg hrp (by omega) (by go_num) (by go_num) (by simp)
          case measure => simp [intOf]; omega
    · obtain rfl : m = 0 := by omega
      obtain rfl : t = n := by omega
      go_wp2
      go_end0
      have hy := HY.out
      have hs := HS.out
      refine ⟨rfl, v1, l1, HT.out, ?_, o1, la⟩
      simp at hy
      subst hy
      simpa using hs

end Go.Proofs.YtnkninjdpgpkmaaGreatDoor.Bv
namespace Go.Proofs.YtnkninjdpgpkmaaGreatDoor.Bx
open Go.RowKit Go.Proofs.YtnkninjdpgpkmaaGreatDoor.Ba Go.Proofs.YtnkninjdpgpkmaaGreatDoor.Vm Go.Proofs.YtnkninjdpgpkmaaGreatDoor.Vo Go.Proofs.YtnkninjdpgpkmaaGreatDoor.Bm Go.Proofs.YtnkninjdpgpkmaaGreatDoor.Bo Go.Proofs.YtnkninjdpgpkmaaGreatDoor.Bt Go.Proofs.YtnkninjdpgpkmaaGreatDoor.Bw Go.Proofs.YtnkninjdpgpkmaaGreatDoor.Br Go.Proofs.YtnkninjdpgpkmaaGreatDoor.Bv

theorem highest_any (base : Nat) {w : World} {g : Nat} {v : Value} {l : List UInt8} {z : Nat} (x n : Nat) (h : wt base w g v l z) (hb : base ≤ w.heap.size) (hx : x < 2 ^ n) (hn : n ≤ 32) (hz : z ≤ 562949953421312) :
    Calls Tryz.prog 185 #[.pointer (some ⟨g, 0, none⟩), .int .i64 x, .int .i64 n] w fun e w' => e = .returned (.tuple #[]) ∧ ∃ v' l', wt base w' g v' l' (z + n) ∧ num l' = num l + turnN x n * 2 ^ z ∧ Only (own g v) w w' ∧ later w v v' := by
  have HT : Hid (turnR x n = (turnN x n : Nat)) := Lib.hid (by
    have h1 : 2 ^ n ≤ 2 ^ 32 := Nat.pow_le_pow_right (by omega) hn
    unfold turnR
    rw [if_pos (by simp [cnt]; omega)]
    rw [show ((x : Int) % 18446744073709551616).toNat = x by omega]
    rfl)
  have hC := Lib.hid (lowest_any base (turnN x n) n h hb (turnN_lt x n) hn hz)
  go_enter Tryz.func185, Tryz.ntmps185
  go_wp2_with (first | (go_at_call 155; refine (Turn_any _ _ _).mono ?_; rintro e w' ⟨rfl, rfl⟩; rw [HT.out]) | (go_at_call 139; refine hC.out.mono ?_; rintro e w1 ⟨rfl, hp⟩))
  go_end0
  exact ⟨rfl, hp⟩

/-- What Put and Code answer. -/
def putE (x n : Int) : Int := if cnt n = true ∧ x / 2 ^ n.toNat = 0 then 0 else 1
theorem putE_cases (x n : Int) : (putE x n = 1 ∧ cnt n = false) ∨ (putE x n = 1 ∧ cnt n = true ∧ ∃ m : Nat, n = (m : Int) ∧ m ≤ 32 ∧ ¬ x / 2 ^ m = 0) ∨ (putE x n = 0 ∧ cnt n = true ∧ ∃ y m : Nat, x = (y : Int) ∧ n = (m : Int) ∧ m ≤ 32 ∧ y < 2 ^ m) := by
  by_cases hc : cnt n = true
  · have hn : 0 ≤ n ∧ n ≤ 32 := by simpa [cnt] using hc
    obtain ⟨m, rfl⟩ := Int.eq_ofNat_of_zero_le hn.1
    by_cases hx : x / 2 ^ m = 0
    · refine .inr (.inr ⟨by unfold putE; rw [if_pos ⟨hc, by simpa using hx⟩], hc, ?_⟩)
      have hp : (0 : Int) < 2 ^ m := Int.pow_pos (by omega)
      have h0 : 0 ≤ x := by
        rcases Int.lt_or_le x 0 with h | h
        · have := Int.ediv_neg_of_neg_of_pos h hp; omega
        · exact h
      obtain ⟨y, rfl⟩ := Int.eq_ofNat_of_zero_le h0
      refine ⟨y, m, rfl, rfl, by omega, ?_⟩
      have e : (y : Int) / 2 ^ m = ((y / 2 ^ m : Nat) : Int) := by simp
      exact Nat.lt_of_div_eq_zero (Nat.two_pow_pos m) (by rw [e] at hx; omega)
    · exact .inr (.inl ⟨by unfold putE; rw [if_neg (fun h => hx (by simpa using h.2))], hc, m, rfl, by omega, hx⟩)
  · exact .inl ⟨by unfold putE; rw [if_neg (fun h => hc h.1)], by simpa using hc⟩

theorem number_low {w : World} {g : Nat} {v : Value} {z : Nat} {Q : World → Prop} (x n : Int) (h : wb w g v z)
    (hf : ∀ y m : Nat, x = (y : Int) → n = (m : Int) → m ≤ 32 → y < 2 ^ m → Calls Tryz.prog 139 #[.pointer (some ⟨g, 0, none⟩), .int .i64 y, .int .i64 m] w fun e w' => e = .returned (.tuple #[]) ∧ Q w') :
    Calls Tryz.prog 138 #[.pointer (some ⟨g, 0, none⟩), .int .i64 x, .int .i64 n, .func (.func 139) #[.pointer (some ⟨g, 0, none⟩)] #[]] w fun e w' => e = .returned (.int .i64 (putE x n)) ∧ ((putE x n = 1 ∧ w = w') ∨ (putE x n = 0 ∧ Q w')) := by
  have hN := Lib.hid (wNone_any h)
  clear h
  rcases putE_cases x n with ⟨he, hc⟩ | ⟨he, hc, m, rfl, hm, hx⟩ | ⟨he, hc, y, m, rfl, rfl, hm, hy⟩
  · have HE := Lib.hid he
    clear he hf
    go_enter Tryz.func138, Tryz.ntmps138
    go_wp2_with (first | (go_at_call 83; refine hN.out.mono ?_; rintro e w' ⟨rfl, rfl⟩) | (go_at_call 167; refine (isCount_any _ _).mono ?_; rintro e w' ⟨rfl, rfl⟩))
    go_ret
    exact ⟨ret_int HE.out.symm, .inl ⟨HE.out, rfl⟩⟩
  · have HE := Lib.hid he
    have hd : (x / 2 ^ m != 0) = true := by simpa using hx
    clear he hf hx
    go_enter Tryz.func138, Tryz.ntmps138
    go_wp2_with (first | (go_at_call 83; refine hN.out.mono ?_; rintro e w' ⟨rfl, rfl⟩) | (go_at_call 167; refine (isCount_any _ _).mono ?_; rintro e w' ⟨rfl, rfl⟩))
    go_ret
    exact ⟨ret_int HE.out.symm, .inl ⟨HE.out, rfl⟩⟩
  · have HE := Lib.hid he
    have hF := Lib.hid (hf y m rfl rfl hm hy)
    have hd : ((y : Int) / 2 ^ m != 0) = false := by
      have : (y : Int) / 2 ^ m = ((y / 2 ^ m : Nat) : Int) := by simp
      rw [this, Nat.div_eq_of_lt hy]; rfl
    clear he hf hy
    go_enter Tryz.func138, Tryz.ntmps138
    go_wp2_with (first | (go_at_call 83; refine hN.out.mono ?_; rintro e w' ⟨rfl, rfl⟩) | (go_at_call 167; refine (isCount_any _ _).mono ?_; rintro e w' ⟨rfl, rfl⟩) | (go_at_call 139; refine hF.out.mono ?_; rintro e w1 ⟨rfl, hq⟩))
    go_ret
    exact ⟨ret_int HE.out.symm, .inr ⟨HE.out, hq⟩⟩

theorem number_high {w : World} {g : Nat} {v : Value} {z : Nat} {Q : World → Prop} (x n : Int) (h : wb w g v z)
    (hf : ∀ y m : Nat, x = (y : Int) → n = (m : Int) → m ≤ 32 → y < 2 ^ m → Calls Tryz.prog 185 #[.pointer (some ⟨g, 0, none⟩), .int .i64 y, .int .i64 m] w fun e w' => e = .returned (.tuple #[]) ∧ Q w') :
    Calls Tryz.prog 138 #[.pointer (some ⟨g, 0, none⟩), .int .i64 x, .int .i64 n, .func (.func 185) #[.pointer (some ⟨g, 0, none⟩)] #[]] w fun e w' => e = .returned (.int .i64 (putE x n)) ∧ ((putE x n = 1 ∧ w = w') ∨ (putE x n = 0 ∧ Q w')) := by
  have hN := Lib.hid (wNone_any h)
  clear h
  rcases putE_cases x n with ⟨he, hc⟩ | ⟨he, hc, m, rfl, hm, hx⟩ | ⟨he, hc, y, m, rfl, rfl, hm, hy⟩
  · have HE := Lib.hid he
    clear he hf
    go_enter Tryz.func138, Tryz.ntmps138
    go_wp2_with (first | (go_at_call 83; refine hN.out.mono ?_; rintro e w' ⟨rfl, rfl⟩) | (go_at_call 167; refine (isCount_any _ _).mono ?_; rintro e w' ⟨rfl, rfl⟩))
    go_ret
    exact ⟨ret_int HE.out.symm, .inl ⟨HE.out, rfl⟩⟩
  · have HE := Lib.hid he
    have hd : (x / 2 ^ m != 0) = true := by simpa using hx
    clear he hf hx
    go_enter Tryz.func138, Tryz.ntmps138
    go_wp2_with (first | (go_at_call 83; refine hN.out.mono ?_; rintro e w' ⟨rfl, rfl⟩) | (go_at_call 167; refine (isCount_any _ _).mono ?_; rintro e w' ⟨rfl, rfl⟩))
    go_ret
    exact ⟨ret_int HE.out.symm, .inl ⟨HE.out, rfl⟩⟩
  · have HE := Lib.hid he
    have hF := Lib.hid (hf y m rfl rfl hm hy)
    have hd : ((y : Int) / 2 ^ m != 0) = false := by
      have : (y : Int) / 2 ^ m = ((y / 2 ^ m : Nat) : Int) := by simp
      rw [this, Nat.div_eq_of_lt hy]; rfl
    clear he hf hy
    go_enter Tryz.func138, Tryz.ntmps138
    go_wp2_with (first | (go_at_call 83; refine hN.out.mono ?_; rintro e w' ⟨rfl, rfl⟩) | (go_at_call 167; refine (isCount_any _ _).mono ?_; rintro e w' ⟨rfl, rfl⟩) | (go_at_call 185; refine hF.out.mono ?_; rintro e w1 ⟨rfl, hq⟩))
    go_ret
    exact ⟨ret_int HE.out.symm, .inr ⟨HE.out, hq⟩⟩

/-- The bits behind Put and Code. -/
def putZ (z : Nat) (x n : Int) : Nat := if putE x n = 0 then z + n.toNat else z
def putN (N z : Nat) (x n : Int) : Nat := if putE x n = 0 then N + x.toNat * 2 ^ z else N
def codeN (N z : Nat) (x n : Int) : Nat := if putE x n = 0 then N + turnN x.toNat n.toNat * 2 ^ z else N

theorem Put_any (base : Nat) {w : World} {g : Nat} {v : Value} {l : List UInt8} {z : Nat} (x n : Int) (h : wt base w g v l z) (hb : base ≤ w.heap.size) (hz : z ≤ 562949953421312) :
    Calls Tryz.prog 113 #[.pointer (some ⟨g, 0, none⟩), .int .i64 x, .int .i64 n] w fun e w' => e = .returned (.int .i64 (putE x n)) ∧ ∃ v' l', wt base w' g v' l' (putZ z x n) ∧ num l' = putN (num l) z x n ∧ Only (own g v) w w' ∧ later w v v' := by
  have hC := Lib.hid (number_low (Q := fun w' => ∃ v' l', wt base w' g v' l' (putZ z x n) ∧ num l' = putN (num l) z x n ∧ Only (own g v) w w' ∧ later w v v') x n h.b (fun y m hx hn hm hy => by
    subst hx; subst hn
    by_cases he : putE y m = 0
    · unfold putZ putN
      rw [if_pos he, if_pos he]
      exact lowest_any base y m h hb hy hm hz
    · exfalso
      rcases putE_cases y m with ⟨_, hc⟩ | ⟨_, _, m', hm', _, hne⟩ | ⟨h0, _⟩
      · simp [cnt] at hc; omega
      · obtain rfl : m = m' := by omega
        have e : (y : Int) / 2 ^ m = ((y / 2 ^ m : Nat) : Int) := by simp
        rw [e, Nat.div_eq_of_lt hy] at hne
        exact hne rfl
      · exact he h0))
  have H := Lib.hid h
  clear h
  go_enter Tryz.func113, Tryz.ntmps113
  go_wp2_with fail
  refine hC.out.mono ?_
  rintro e w1 ⟨rfl, hq⟩
  have HQ := Lib.hid hq
  clear hq
  go_wp2
  go_ret
  refine ⟨rfl, ?_⟩
  rcases HQ.out with ⟨h1, rfl⟩ | ⟨_, h2⟩
  · refine ⟨v, l, ?_, ?_, Only.refl _ _, .inl rfl⟩
    · unfold putZ; rw [h1, if_neg (by decide)]; exact H.out
    · unfold putN; rw [h1, if_neg (by decide)]
  · exact h2

theorem Code_any (base : Nat) {w : World} {g : Nat} {v : Value} {l : List UInt8} {z : Nat} (x n : Int) (h : wt base w g v l z) (hb : base ≤ w.heap.size) (hz : z ≤ 562949953421312) :
    Calls Tryz.prog 169 #[.pointer (some ⟨g, 0, none⟩), .int .i64 x, .int .i64 n] w fun e w' => e = .returned (.int .i64 (putE x n)) ∧ ∃ v' l', wt base w' g v' l' (putZ z x n) ∧ num l' = codeN (num l) z x n ∧ Only (own g v) w w' ∧ later w v v' := by
  have hC := Lib.hid (number_high (Q := fun w' => ∃ v' l', wt base w' g v' l' (putZ z x n) ∧ num l' = codeN (num l) z x n ∧ Only (own g v) w w' ∧ later w v v') x n h.b (fun y m hx hn hm hy => by
    subst hx; subst hn
    by_cases he : putE y m = 0
    · unfold putZ codeN
      rw [if_pos he, if_pos he]
      exact highest_any base y m h hb hy hm hz
    · exfalso
      rcases putE_cases y m with ⟨_, hc⟩ | ⟨_, _, m', hm', _, hne⟩ | ⟨h0, _⟩
      · simp [cnt] at hc; omega
      · obtain rfl : m = m' := by omega
        have e : (y : Int) / 2 ^ m = ((y / 2 ^ m : Nat) : Int) := by simp
        rw [e, Nat.div_eq_of_lt hy] at hne
        exact hne rfl
      · exact he h0))
  have H := Lib.hid h
  clear h
  go_enter Tryz.func169, Tryz.ntmps169
  go_wp2_with fail
  refine hC.out.mono ?_
  rintro e w1 ⟨rfl, hq⟩
  have HQ := Lib.hid hq
  clear hq
  go_wp2
  go_ret
  refine ⟨rfl, ?_⟩
  rcases HQ.out with ⟨h1, rfl⟩ | ⟨_, h2⟩
  · refine ⟨v, l, ?_, ?_, Only.refl _ _, .inl rfl⟩
    · unfold putZ; rw [h1, if_neg (by decide)]; exact H.out
    · unfold codeN; rw [h1, if_neg (by decide)]
  · exact h2

/-- A new writer. -/
theorem Open_any (w : World) :
    Calls Tryz.prog 45 #[] w fun e w' => ∃ g, e = .returned (.pointer (some ⟨g, 0, none⟩)) ∧ wt w.heap.size w' g (.slice none 0 0) [] 0 ∧ g = w.heap.size ∧ Below w.heap.size w w' := by
  go_enter Tryz.func45, Tryz.ntmps45
  go_wp2
  go_ret
  exact ⟨w.heap.size, rfl, ⟨Blk.fresh w 139 _, World.ownsRow_nil _ _ _ _, by simp [num], rfl⟩, rfl, (Below.refl _ _).alloc (Nat.le_refl _) _⟩

theorem Len_any {w : World} {g : Nat} {v : Value} {z : Nat} (h : wb w g v z) :
    Calls Tryz.prog 175 #[.pointer (some ⟨g, 0, none⟩)] w fun e w' => e = .returned (.int .i64 z) ∧ w = w' := by
  have hN := Lib.hid (wNone_any h)
  have c2 := h.c2
  go_enter Tryz.func175, Tryz.ntmps175
  go_wp2_with (go_at_call 83; refine hN.out.mono ?_; rintro e w' ⟨rfl, rfl⟩)
  go_ret
  exact ⟨rfl, rfl⟩

theorem Text_any {base : Nat} {w : World} {g : Nat} {v : Value} {l : List UInt8} {z : Nat} (h : wt base w g v l z) :
    Calls Tryz.prog 50 #[.pointer (some ⟨g, 0, none⟩)] w fun e w' => e = .returned (.string ⟨l.toArray⟩) ∧ w = w' := by
  have hN := Lib.hid (wNone_any h.b)
  have c1 := h.b.c1
  have hcv := own_string (P := Tryz.prog) (dst := 9) Tryz.underlying62 Tryz.underlying5 Tryz.underlying9 h.o
  clear h
  go_enter Tryz.func50, Tryz.ntmps50
  go_wp2_with (go_at_call 83; refine hN.out.mono ?_; rintro e w' ⟨rfl, rfl⟩)
  go_ret
  exact ⟨rfl, rfl⟩

theorem row_form {w : World} {base : Nat} {v : Value} {n : Nat} {xs : List Value} (h : w.ownsRow base 5 1 v n xs) : ∃ A cap, v = .slice A n cap := by
  rcases h.2 with ⟨rfl, rfl⟩ | ⟨b, cap, _, rfl, _⟩
  · exact ⟨none, 0, rfl⟩
  · exact ⟨_, cap, rfl⟩

/-- Align, also of a writer whose bytes have grown ahead of its size. -/
theorem align_all (base : Nat) {w : World} {g : Nat} {v : Value} {l : List UInt8} {z : Nat} (h : wb w g v z) (ho : w.ownsRow base 5 1 v l.length (Bs l)) (hl : l.length ≤ 140737488355328) :
    Calls Tryz.prog 120 #[.pointer (some ⟨g, 0, none⟩)] w fun e w' => e = .returned (.tuple #[]) ∧ wt base w' g v l (8 * l.length) ∧ Only (own g v) w w' := by
  have hN := Lib.hid (wNone_any h)
  obtain ⟨A, cap, rfl⟩ := row_form ho
  have c1 := h.c1
  have c2 := h.c2
  have f2 := h.f2
  have H := Lib.hid h
  have HO := Lib.hid ho
  have hap := Lib.hid (own_apart ho h (by decide))
  clear h ho
  generalize hn : l.length = n at *
  have HN := Lib.hid hn
  clear hn
  go_enter Tryz.func120, Tryz.ntmps120
  go_wp2_with (go_at_call 83; refine hN.out.mono ?_; rintro e w' ⟨rfl, rfl⟩)
  go_end0
  refine ⟨rfl, ⟨H.out.size (by omega), ?_, ?_, ?_⟩, (Only.refl _ _).store (.inl (.inl rfl)) _⟩
  · rw [HN.out]; exact own_only HO.out ((Only.refl (fun k => k = g) w).store (p := ⟨g, 2, none⟩) (.inl rfl) _) (fun i hi e => hap.out i hi e)
  · rw [← HN.out]; exact num_lt l
  · rw [HN.out]; omega
theorem wAlign_any (base : Nat) {w : World} {g : Nat} {v : Value} {l : List UInt8} {z : Nat} (h : wt base w g v l z) (hz : z ≤ 562949953421312) :
    Calls Tryz.prog 120 #[.pointer (some ⟨g, 0, none⟩)] w fun e w' => e = .returned (.tuple #[]) ∧ wt base w' g v l (8 * l.length) ∧ Only (own g v) w w' :=
  align_all base h.b h.o (by rw [h.len]; omega)

theorem strCells_Bs (s : ByteArray) : Lib.strCells s = Bs s.data.toList := rfl

theorem wBytes_any (base : Nat) {w : World} {g : Nat} {v : Value} {l : List UInt8} {z : Nat} (s : ByteArray) (h : wt base w g v l z) (hb : base ≤ w.heap.size) (hz : z ≤ 281474976710656) (hs : s.size ≤ 70368744177664) :
    Calls Tryz.prog 82 #[.pointer (some ⟨g, 0, none⟩), .string s] w fun e w' => e = .returned (.tuple #[]) ∧ ∃ v', wt base w' g v' (l ++ s.data.toList) (8 * (l.length + s.size)) ∧ Only (own g v) w w' ∧ later w v v' := by
  obtain ⟨i0, hi, hz0, hz1, hz2⟩ := info_parts info8
  have hN := Lib.hid (wNone_any h.b)
  have c1 := h.b.c1
  have f1 := h.b.f1
  have hll : l.length ≤ 35184372088833 := by rw [h.len]; omega
  have H := Lib.hid h
  have hls : (l ++ s.data.toList).length = l.length + s.size := by rw [List.length_append, Array.length_toList]; rfl
  have HLS := Lib.hid hls
  clear h hls
  go_enter Tryz.func82, Tryz.ntmps82
  go_wp2_with (first | (go_at_call 83; refine hN.out.mono ?_; rintro e w' ⟨rfl, rfl⟩) | (at_builtin; refine wpList_str_at _ rfl _ _ 62 9 rfl base 5 i0 Tryz.underlying62 Tryz.underlying9 hi hz0 hz1 hz2 v l.length (Bs l) rfl H.out.o s rfl ?a3 ?a4 hb ?_))
  case a3 => unfold maxLen; omega
  case a4 => omega
  intro v2 w2 hown2 hgrow hloc
  obtain ⟨A2, cap2, hv2⟩ := row_form hown2
  subst hv2
  have hvg : ∀ i, v.ownBlock = some i → i ≠ g := own_apart H.out.o H.out.b (by decide)
  have o2 : Only (own g v) w w2 := (Only.refl _ _).grown hgrow (fun i hi _ => .inr hi)
  have B2 : wb w2 g v z := H.out.b.only ((Only.refl (fun k => v.ownBlock = some k) w).grown hgrow (fun i hi _ => hi)) (fun e => hvg g e rfl)
  have k1 := B2.c1
  have g1 := B2.f1
  have hbg : ∀ i, Value.ownBlock (.slice A2 (l.length + s.size) cap2) = some i → i ≠ g := own_apart hown2 B2 (by decide)
  have la : later w v (.slice A2 (l.length + s.size) cap2) := by
    rcases hloc with h | h
    · exact .inl h
    · exact .inr ⟨_, Nat.le_refl _, h⟩
  have B3 : Hid (wb (w2.setCell ⟨g, 1, none⟩ (.slice A2 (l.length + s.size) cap2)) g (.slice A2 (l.length + s.size) cap2) z) := Lib.hid (B2.bytes _)
  have O3 : Hid ((w2.setCell ⟨g, 1, none⟩ (.slice A2 (l.length + s.size) cap2)).ownsRow base 5 1 (.slice A2 (l.length + s.size) cap2) (l ++ s.data.toList).length (Bs (l ++ s.data.toList))) := Lib.hid (by
    have h := own_only hown2 ((Only.refl (fun k => k = g) w2).store (p := ⟨g, 1, none⟩) (.inl rfl) (.slice A2 (l.length + s.size) cap2)) (fun i hi e => hbg i hi e)
    rw [strCells_Bs] at h
    rw [HLS.out]
    unfold Bs at h ⊢
    rw [List.map_append]
    exact h)
  have o3 : Hid (Only (own g v) w (w2.setCell ⟨g, 1, none⟩ (.slice A2 (l.length + s.size) cap2))) := Lib.hid (o2.store (.inl (.inl rfl)) _)
  clear hown2 hgrow hloc hvg o2 c1 f1 hbg
  go_wp2_with fail
  clear k1 g1 B2
  generalize w2.setCell ⟨g, 1, none⟩ (.slice A2 (l.length + s.size) cap2) = w3 at *
  refine (align_all base B3.out O3.out (by rw [HLS.out]; omega)).mono ?_
  rintro e w4 ⟨rfl, t4, o4⟩
  have T4 := Lib.hid t4
  clear t4
  go_wp2
  go_end0
  refine ⟨rfl, _, by have h := T4.out; rw [HLS.out] at h; exact h, o3.out.then o4 (fun i hi hlt => ?_), la⟩
  rcases hi with rfl | hi
  · exact .inl rfl
  · rcases own_of (g := g) la i hi with h | h
    · exact h
    · omega

end Go.Proofs.YtnkninjdpgpkmaaGreatDoor.Bx
