/-
  The packer's ops: number, op and ops: what is written, and what is wrong.
  The packer's parts: part and Encode: what is written, and what is wrong.
  What must come of the fixed calls of layer 11.
  Conditions: as each theorem says.
-/
import Derived.Test.YtnkninjdpgpkmaaGreatDoorBbk
import Derived.Test.YtnkninjdpgpkmaaGreatDoorBaf
namespace Go.Proofs.YtnkninjdpgpkmaaGreatDoor.Gy
open Go.RowKit Go.Proofs.YtnkninjdpgpkmaaGreatDoor.Vm Go.Proofs.YtnkninjdpgpkmaaGreatDoor.Vo Go.Proofs.YtnkninjdpgpkmaaGreatDoor.Bm Go.Proofs.YtnkninjdpgpkmaaGreatDoor.Bw Go.Proofs.YtnkninjdpgpkmaaGreatDoor.Bv Go.Proofs.YtnkninjdpgpkmaaGreatDoor.Na Go.Proofs.YtnkninjdpgpkmaaGreatDoor.Nm Go.Proofs.YtnkninjdpgpkmaaGreatDoor.Ne Go.Proofs.YtnkninjdpgpkmaaGreatDoor.Pm Go.Proofs.YtnkninjdpgpkmaaGreatDoor.Ko Go.Proofs.YtnkninjdpgpkmaaGreatDoor.Km Go.Proofs.YtnkninjdpgpkmaaGreatDoor.Kw Go.Proofs.YtnkninjdpgpkmaaGreatDoor.Ks Go.Proofs.YtnkninjdpgpkmaaGreatDoor.Kh Go.Proofs.YtnkninjdpgpkmaaGreatDoor.Sm Go.Proofs.YtnkninjdpgpkmaaGreatDoor.Sp Go.Proofs.YtnkninjdpgpkmaaGreatDoor.Gm Go.Proofs.YtnkninjdpgpkmaaGreatDoor.Ga Go.Proofs.YtnkninjdpgpkmaaGreatDoor.Gp Go.Proofs.YtnkninjdpgpkmaaGreatDoor.Gt Go.Proofs.YtnkninjdpgpkmaaGreatDoor.Gw Go.Proofs.YtnkninjdpgpkmaaGreatDoor.Gx

/-- What number leaves. -/
def wroteN (B : Nat) (w : World) (c ws : Nat) (li : List Nat) (y x m : Nat) (g : Nat) (v : Value) (l : List (Nat × Nat)) (e : Ending) (w' : World) : Prop :=
  (¬ has li y ∧ e = .returned (.int .i64 1) ∧ stay B w w') ∨ (has li y ∧ e = .returned (.int .i64 0) ∧ ∃ v', wrl B w' g v' (l ++ [sy li y, (x, m)]) ∧ cod B w' c ws li ∧ Only (fun i => own g v i ∨ i = ws) w w' ∧ stay B w w' ∧ later w v v')
theorem now_then {w w2 w3 : World} {g ws : Nat} {v v2 : Value} (o : Only (fun i => own g v i ∨ i = ws) w w2) (a : later w v v2) (k : Only (own g v2) w2 w3) : Only (fun i => own g v i ∨ i = ws) w w3 :=
  o.then k (fun i hi hlt => by
    rcases hi with rfl | hi
    · exact .inl (.inl rfl)
    · rcases own_of (g := g) a i hi with h | h
      · exact .inl h
      · omega)
section
variable {B : Nat} {w : World} {c ws g : Nat} {v : Value} {l : List (Nat × Nat)} {li : List Nat}
theorem sy_len {c ws : Nat} (h : cod B w c ws li) (y : Nat) : (sy li y).2 ≤ 15 := by
  obtain ⟨⟨A, cap, f, _, _, hL, he⟩, _, _⟩ := h
  have := L_le (err_zero he).2.1 y
  rw [hL] at this
  exact this
set_option maxHeartbeats 1000000 in
set_option maxRecDepth 100000 in
theorem number_len {z : Int} {y m x : Nat} (HF : ∀ u, Calls Tryz.prog 143 #[.int .i64 z] u fun e w' => e = .returned (.tuple #[.int .i64 (y : Int), .int .i64 (m : Int), .int .i64 (x : Int), .int .i64 0]) ∧ Below u.heap.size u w')
    (hc : cod B w c ws li) (hw : wrl B w g v l) (hz : bl l ≤ 281474976710000) (hy : y ≤ 1000000) (hx : x < 2 ^ m) (hm : m ≤ 32) :
    Calls Tryz.prog 142 #[.pointer (some ⟨c, 0, none⟩), .pointer (some ⟨g, 0, none⟩), .func (.func 143) #[] #[], .int .i64 z] w (wroteN B w c ws li y x m g v l) := by
  have HH := Lib.hid (HF w)
  have C := Lib.hid hc
  have W := Lib.hid hw
  have HZ := Lib.hid hz
  have HX := Lib.hid hx
  have HM := Lib.hid hm
  have HY := Lib.hid hy
  have HS := Lib.hid (sy_len hc y)
  clear HF hc hw hz hx hm hy
  go_enter Tryz.func142, Tryz.ntmps142
  go_wp2_with fail
  refine HH.out.mono ?_
  rintro e w1 ⟨rfl, b1⟩
  have W1 := Lib.hid (W.out.below b1)
  have C1 := Lib.hid (C.out.below b1)
  have B1 := Lib.hid b1
  clear b1
  go_wp2_with fail
  refine (write_any C1.out W1.out (by have := HZ.out; omega) HY.out).mono ?_
  intro e w2 hwr
  rcases hwr with ⟨h1, rfl, h3⟩ | ⟨h1, rfl, v2, h2, h3, h4, h5, h6⟩
  · have H1 := Lib.hid h1
    have H3 := Lib.hid h3
    clear h1 h3
    go_wp2
    go_ret
    exact .inl ⟨H1.out, rfl, (stay.of_below B1.out).trans H3.out⟩
  · have H1 := Lib.hid h1
    have H2 := Lib.hid h2
    have H3 := Lib.hid h3
    have H4 := Lib.hid h4
    have H5 := Lib.hid h5
    have H6 := Lib.hid h6
    have HP := Lib.hid (h2.put (y := x) (m := m) rfl rfl HX.out HM.out (by have h := HZ.out; have h' := HS.out; rw [bl_append]; simp only [bl]; omega))
    clear h1 h2 h3 h4 h5 h6
    go_wp2_with fail
    refine HP.out.mono ?_
    rintro e w3 ⟨rfl, v3, k3, o3, a3⟩
    have K3 := Lib.hid k3
    have O3 := Lib.hid o3
    have A3 := Lib.hid a3
    clear k3 o3 a3
    go_wp2
    go_ret
    have o13 := (Only.of_below B1.out).trans (now_then H4.out H6.out O3.out)
    refine .inr ⟨H1.out, rfl, v3, ?_, ?_, ?_, ?_, ?_⟩
    · have e := K3.out; rw [List.append_assoc] at e; exact e
    · have hne : ¬ own g v2 ws := by
        obtain ⟨F, hk, _⟩ := H3.out.k
        exact own_not H2.out hk ⟨by decide, by decide⟩
      exact H3.out.only (H2.out.stay O3.out) O3.out hne
    · exact o13
    · exact ((stay.of_below B1.out).trans H5.out).trans (H2.out.stay O3.out)
    · exact later_trans (later_le H6.out B1.out.size) A3.out (by have h1 := B1.out.size; have h2 := H4.out.size; omega)
set_option maxHeartbeats 1000000 in
set_option maxRecDepth 100000 in
theorem number_dist {z : Int} {y m x : Nat} (HF : ∀ u, Calls Tryz.prog 144 #[.int .i64 z] u fun e w' => e = .returned (.tuple #[.int .i64 (y : Int), .int .i64 (m : Int), .int .i64 (x : Int), .int .i64 0]) ∧ Below u.heap.size u w')
    (hc : cod B w c ws li) (hw : wrl B w g v l) (hz : bl l ≤ 281474976710000) (hy : y ≤ 1000000) (hx : x < 2 ^ m) (hm : m ≤ 32) :
    Calls Tryz.prog 142 #[.pointer (some ⟨c, 0, none⟩), .pointer (some ⟨g, 0, none⟩), .func (.func 144) #[] #[], .int .i64 z] w (wroteN B w c ws li y x m g v l) := by
  have HH := Lib.hid (HF w)
  have C := Lib.hid hc
  have W := Lib.hid hw
  have HZ := Lib.hid hz
  have HX := Lib.hid hx
  have HM := Lib.hid hm
  have HY := Lib.hid hy
  have HS := Lib.hid (sy_len hc y)
  clear HF hc hw hz hx hm hy
  go_enter Tryz.func142, Tryz.ntmps142
  go_wp2_with fail
  refine HH.out.mono ?_
  rintro e w1 ⟨rfl, b1⟩
  have W1 := Lib.hid (W.out.below b1)
  have C1 := Lib.hid (C.out.below b1)
  have B1 := Lib.hid b1
  clear b1
  go_wp2_with fail
  refine (write_any C1.out W1.out (by have := HZ.out; omega) HY.out).mono ?_
  intro e w2 hwr
  rcases hwr with ⟨h1, rfl, h3⟩ | ⟨h1, rfl, v2, h2, h3, h4, h5, h6⟩
  · have H1 := Lib.hid h1
    have H3 := Lib.hid h3
    clear h1 h3
    go_wp2
    go_ret
    exact .inl ⟨H1.out, rfl, (stay.of_below B1.out).trans H3.out⟩
  · have H1 := Lib.hid h1
    have H2 := Lib.hid h2
    have H3 := Lib.hid h3
    have H4 := Lib.hid h4
    have H5 := Lib.hid h5
    have H6 := Lib.hid h6
    have HP := Lib.hid (h2.put (y := x) (m := m) rfl rfl HX.out HM.out (by have h := HZ.out; have h' := HS.out; rw [bl_append]; simp only [bl]; omega))
    clear h1 h2 h3 h4 h5 h6
    go_wp2_with fail
    refine HP.out.mono ?_
    rintro e w3 ⟨rfl, v3, k3, o3, a3⟩
    have K3 := Lib.hid k3
    have O3 := Lib.hid o3
    have A3 := Lib.hid a3
    clear k3 o3 a3
    go_wp2
    go_ret
    have o13 := (Only.of_below B1.out).trans (now_then H4.out H6.out O3.out)
    refine .inr ⟨H1.out, rfl, v3, ?_, ?_, ?_, ?_, ?_⟩
    · have e := K3.out; rw [List.append_assoc] at e; exact e
    · have hne : ¬ own g v2 ws := by
        obtain ⟨F, hk, _⟩ := H3.out.k
        exact own_not H2.out hk ⟨by decide, by decide⟩
      exact H3.out.only (H2.out.stay O3.out) O3.out hne
    · exact o13
    · exact ((stay.of_below B1.out).trans H5.out).trans (H2.out.stay O3.out)
    · exact later_trans (later_le H6.out B1.out.size) A3.out (by have h1 := B1.out.size; have h2 := H4.out.size; omega)
end

/-- Both codes of a block, and the packer's writer. -/
structure pk (B : Nat) (w : World) (cl wl cd wd : Nat) (Li Di : List Nat) (g : Nat) (v : Value) (l : List (Nat × Nat)) : Prop where
  a : cod B w cl wl Li
  b : cod B w cd wd Di
  ne : wl ≠ wd
  w : wrl B w g v l
/-- What may be written. -/
def pko (g : Nat) (v : Value) (wl wd i : Nat) : Prop := own g v i ∨ i = wl ∨ i = wd
section
variable {B : Nat} {w w' : World} {cl wl cd wd g : Nat} {Li Di : List Nat} {v v' : Value} {l l' : List (Nat × Nat)}
theorem pk.below (h : pk B w cl wl cd wd Li Di g v l) (k : Below w.heap.size w w') : pk B w' cl wl cd wd Li Di g v l := ⟨h.a.below k, h.b.below k, h.ne, h.w.below k⟩
theorem pk.words (h : pk B w cl wl cd wd Li Di g v l) : (∃ cs, Blk w wl 202 cs) ∧ ∃ cs, Blk w wd 202 cs := by
  obtain ⟨F, hk, _⟩ := h.a.k
  obtain ⟨G, hl, _⟩ := h.b.k
  exact ⟨⟨_, hk⟩, ⟨_, hl⟩⟩
theorem pk.litw (h : pk B w cl wl cd wd Li Di g v l) (a : cod B w' cl wl Li) (o : Only (fun i => own g v i ∨ i = wl) w w') (s : stay B w w') (k : wrl B w' g v' l') : pk B w' cl wl cd wd Li Di g v' l' := by
  obtain ⟨⟨_, h1⟩, ⟨_, h2⟩⟩ := h.words
  exact ⟨a, h.b.only s o (fun e => by
    rcases e with e | e
    · exact own_not h.w h2 ⟨by decide, by decide⟩ e
    · exact h.ne e.symm), h.ne, k⟩
theorem pk.disw (h : pk B w cl wl cd wd Li Di g v l) (b : cod B w' cd wd Di) (o : Only (fun i => own g v i ∨ i = wd) w w') (s : stay B w w') (k : wrl B w' g v' l') : pk B w' cl wl cd wd Li Di g v' l' := by
  obtain ⟨⟨_, h1⟩, ⟨_, h2⟩⟩ := h.words
  exact ⟨h.a.only s o (fun e => by
    rcases e with e | e
    · exact own_not h.w h1 ⟨by decide, by decide⟩ e
    · exact h.ne e), b, h.ne, k⟩
theorem pko_then {w2 : World} {v2 : Value} (o : Only (pko g v wl wd) w w') (a : later w v v2) (k : Only (pko g v2 wl wd) w' w2) : Only (pko g v wl wd) w w2 :=
  o.then k (fun i hi hlt => by
    rcases hi with (rfl | hi) | hi
    · exact .inl (.inl rfl)
    · rcases own_of (g := g) a i hi with h | h
      · exact .inl h
      · omega
    · exact .inr hi)
end

/-- What comes of ops: what is wrong; without an error what was written. -/
def pkR (B : Nat) (w : World) (cl wl cd wd : Nat) (Li Di : List Nat) (g : Nat) (v : Value) (l : List (Nat × Nat)) (er : Int) (x : List (Nat × Nat)) (e : Ending) (w' : World) : Prop :=
  (er ≠ 0 ∧ e = .returned (.int .i64 er) ∧ stay B w w') ∨ (er = 0 ∧ e = .returned (.int .i64 0) ∧ ∃ v', pk B w' cl wl cd wd Li Di g v' (l ++ x) ∧ Only (pko g v wl wd) w w' ∧ stay B w w' ∧ later w v v')
/-- An op that can be done. -/
def okI (o : Opi) : Prop := o.n = 0 ∨ (3 ≤ o.n ∧ o.n ≤ 258 ∧ 1 ≤ o.d ∧ o.d ≤ 32768)
section
variable {B : Nat} {w : World} {cl wl cd wd g e0 : Nat} {Li Di : List Nat} {v : Value} {l : List (Nat × Nat)} {x1 x2 : Value}
theorem lit_has {o : Opi} (h : o.n = 0) : (hasO Li Di o.nat ↔ has Li o.x.toNat) ∧ encO Li Di o.nat = [sy Li o.x.toNat] := by
  have e : o.nat.n = 0 := by show o.n.toNat = 0; omega
  unfold hasO encO
  rw [if_pos e, if_pos e]
  exact ⟨Iff.rfl, rfl⟩
theorem copy_has {o : Opi} {n d : Nat} (hn : o.n = (n : Int)) (hd : o.d = (d : Int)) (h : 3 ≤ n) : (hasO Li Di o.nat ↔ has Li (257 + lS n) ∧ has Di (dS d)) ∧ encO Li Di o.nat = [sy Li (257 + lS n), (n - lB (lS n), lb (lS n)), sy Di (dS d), (d - dB (dS d), fb 2 (dS d))] := by
  have e : o.nat.n = n := by show o.n.toNat = n; omega
  have e2 : o.nat.d = d := by show o.d.toNat = d; omega
  unfold hasO encO
  rw [e, e2, if_neg (by omega), if_neg (by omega)]
  exact ⟨Iff.rfl, rfl⟩
set_option maxHeartbeats 2000000 in
set_option maxRecDepth 100000 in
theorem op_any {o : Opi} (ho : okI o) (h : pk B w cl wl cd wd Li Di g v l) (he : Blk w e0 107 #[.pointer (some ⟨g, 0, none⟩), x1, x2]) (hz : bl l ≤ 281474976700000) :
    Calls Tryz.prog 118 #[.pointer (some ⟨e0, 0, none⟩), .agg #[.int .u8 (o.x.toNat : Int), .int .i64 o.n, .int .i64 o.d], .agg #[.pointer (some ⟨cl, 0, none⟩), .pointer (some ⟨cd, 0, none⟩)]] w
      (pkR B w cl wl cd wd Li Di g v l (if hasO Li Di o.nat then 0 else 1) (encO Li Di o.nat)) := by
  obtain ⟨x, n, d⟩ := o
  dsimp only
  obtain ⟨yx, hyx⟩ : ∃ yx : Int, yx = (x.toNat : Int) := ⟨_, rfl⟩
  obtain ⟨yy, hyy⟩ : ∃ yy, yy = x.toNat := ⟨_, rfl⟩
  rw [← hyx]
  obtain ⟨w1, hw1⟩ : ∃ w1, w1 = (w.alloc (.cells #[.int .u8 yx, .int .i64 n, .int .i64 d] 89)).alloc (.cells #[.pointer (some ⟨cl, 0, none⟩), .pointer (some ⟨cd, 0, none⟩)] 103) := ⟨_, rfl⟩
  have B1 : Hid (Below w.heap.size w w1) := Lib.hid (by rw [hw1]; exact grows (below_alloc _ _) (below_alloc _ _))
  obtain ⟨Z, hZ⟩ : ∃ Z, Z = w.heap.size := ⟨_, rfl⟩
  have K1 : Hid (Blk w1 Z 89 #[.int .u8 yx, .int .i64 n, .int .i64 d]) := Lib.hid (by rw [hw1, hZ]; exact (Blk.fresh _ _ _).below (below_alloc _ _))
  have K2 : Hid (Blk w1 (Z + 1) 103 #[.pointer (some ⟨cl, 0, none⟩), .pointer (some ⟨cd, 0, none⟩)]) := Lib.hid (by
    rw [hw1, hZ]
    have := Blk.fresh (w.alloc (.cells #[.int .u8 yx, .int .i64 n, .int .i64 d] 89)) 103 #[.pointer (some ⟨cl, 0, none⟩), .pointer (some ⟨cd, 0, none⟩)]
    rw [size_alloc] at this
    exact this)
  have E1 := Lib.hid (he.below B1.out)
  have P1 := Lib.hid (h.below B1.out)
  have PD := Lib.hid (P1.out.below (Below.refl _ w1).drew)
  obtain ⟨er, her⟩ : ∃ er : Int, er = if hasO Li Di (Opi.nat ⟨x, n, d⟩) then 0 else 1 := ⟨_, rfl⟩
  rw [← her]
  have HER : Hid ((hasO Li Di (Opi.nat ⟨x, n, d⟩) → er = 0) ∧ (¬ hasO Li Di (Opi.nat ⟨x, n, d⟩) → er = 1)) := Lib.hid ⟨fun h => by rw [her, if_pos h], fun h => by rw [her, if_neg h]⟩
  clear her
  have HY256 : Hid (yy < 256) := Lib.hid (by rw [hyy]; exact x.toNat_lt)
  have HZ := Lib.hid hz
  have k0 : w1.cell? ⟨Z, 0, none⟩ = some (.int .u8 yx) := K1.out.cell 0
  have k1 : w1.cell? ⟨Z, 1, none⟩ = some (.int .i64 n) := K1.out.cell 1
  have k2 : w1.cell? ⟨Z, 2, none⟩ = some (.int .i64 d) := K1.out.cell 2
  have q0 : w1.cell? ⟨Z + 1, 0, none⟩ = some (.pointer (some ⟨cl, 0, none⟩)) := K2.out.cell 0
  have q1 : w1.cell? ⟨Z + 1, 1, none⟩ = some (.pointer (some ⟨cd, 0, none⟩)) := K2.out.cell 1
  have r0 : w1.cell? ⟨e0, 0, none⟩ = some (.pointer (some ⟨g, 0, none⟩)) := E1.out.cell 0
  by_cases h0 : n = 0
  · subst h0
    obtain ⟨p1, p2⟩ := lit_has (Li := Li) (Di := Di) (o := ⟨x, 0, d⟩) rfl
    have P2 : Hid (encO Li Di (Opi.nat ⟨x, 0, d⟩) = [sy Li yy]) := Lib.hid (by rw [p2, hyy])
    have PI : Hid (hasO Li Di (Opi.nat ⟨x, 0, d⟩) ↔ has Li yy) := Lib.hid (by rw [hyy]; exact p1)
    have hyxy : yx = (yy : Int) := by rw [hyx, hyy]
    have hcv : IntKind.i64.wrap yx = (yy : Int) := by rw [IntKind.wrap_i64]; have := HY256.out; omega
    have HWR := Lib.hid (write_any PD.out.a PD.out.w (by have := HZ.out; omega) (y := yy) (by have := HY256.out; omega))
    clear h he ho hz hyx hyy hyxy p1 p2
    go_enter Tryz.func118, Tryz.ntmps118
    go_wp2_with fail
    rw [← hw1, ← hZ]
    clear hw1 hZ
    go_still_tail 9, (by kernel_rfl)
    go_wp2_with fail
    refine HWR.out.mono ?_
    intro e w2 hwr
    rcases hwr with ⟨h1, rfl, h3⟩ | ⟨h1, rfl, v2, h2, h3, h4, h5, h6⟩
    · have H1 := Lib.hid h1
      have H3 := Lib.hid h3
      clear h1 h3
      go_wp2
      go_ret
      have hno : ¬ hasO Li Di (Opi.nat ⟨x, 0, d⟩) := fun e => H1.out (PI.out.1 e)
      exact .inl ⟨by rw [HER.out.2 hno]; decide, by rw [HER.out.2 hno]; rfl, (stay.of_below (B1.out.drew)).trans H3.out⟩
    · have H1 := Lib.hid h1
      have H2 := Lib.hid h2
      have H3 := Lib.hid h3
      have H4 := Lib.hid h4
      have H5 := Lib.hid h5
      have H6 := Lib.hid h6
      clear h1 h2 h3 h4 h5 h6
      go_wp2
      go_ret
      have hyes : hasO Li Di (Opi.nat ⟨x, 0, d⟩) := PI.out.2 H1.out
      refine .inr ⟨HER.out.1 hyes, rfl, v2, ?_, ?_, (stay.of_below (B1.out.drew)).trans H5.out, later_le H6.out (by exact B1.out.size)⟩
      · rw [P2.out]; exact PD.out.litw H3.out H4.out H5.out H2.out
      · exact (Only.of_below B1.out.drew).trans (H4.out.mono (fun i hi => hi.imp id .inl))
  · have hn0 : (n == 0) = false := by simp [h0]
    have ho' : 3 ≤ n ∧ n ≤ 258 ∧ 1 ≤ d ∧ d ≤ 32768 := ho.resolve_left h0
    obtain ⟨nn, rfl⟩ := Int.eq_ofNat_of_zero_le (show 0 ≤ n by omega)
    obtain ⟨dd, rfl⟩ := Int.eq_ofNat_of_zero_le (show 0 ≤ d by omega)
    have hn3 : 3 ≤ nn ∧ nn ≤ 258 := by omega
    have hd3 : 1 ≤ dd ∧ dd ≤ 32768 := by omega
    obtain ⟨p1, p2⟩ := copy_has (Li := Li) (Di := Di) (o := ⟨x, (nn : Int), (dd : Int)⟩) rfl rfl hn3.1
    have P2 := Lib.hid p2
    have PI := Lib.hid p1
    have HNL := Lib.hid (number_len (z := (nn : Int)) (y := 257 + lS nn) (m := lb (lS nn)) (x := nn - lB (lS nn)) (fun u => by
      have c := OfLength_any (z := (nn : Int)) (by omega) (by omega) u
      rw [ofL_in hn3.1 hn3.2] at c
      exact c) PD.out.a PD.out.w (by have := HZ.out; omega) (by have := lS_le nn; omega) (lS_hi hn3.1 hn3.2) (by have := lb_le (lS_le nn); omega))
    have HND : Hid (∀ u v' l', cod B u cd wd Di → wrl B u g v' l' → bl l' ≤ 281474976710000 → Calls Tryz.prog 142 #[.pointer (some ⟨cd, 0, none⟩), .pointer (some ⟨g, 0, none⟩), .func (.func 144) #[] #[], .int .i64 (dd : Int)] u (wroteN B u cd wd Di (dS dd) (dd - dB (dS dd)) (fb 2 (dS dd)) g v' l')) := Lib.hid (fun u v' l' hc hw hz' => number_dist (fun u => by
      have c := OfDist_any (z := (dd : Int)) (by omega) (by omega) u
      rw [ofD_in hd3.1 hd3.2] at c
      exact c) hc hw hz' (by have := dS_le dd; omega) (dS_hi hd3.1 hd3.2) (by have := fb2_le (k := dS dd) (by have := dS_le dd; omega); omega))
    have HBL : Hid (bl (l ++ [sy Li (257 + lS nn), (nn - lB (lS nn), lb (lS nn))]) ≤ 281474976710000) := Lib.hid (by
      have h1 := sy_len PD.out.a (257 + lS nn)
      have h2 := lb_le (lS_le nn)
      have h3 := HZ.out
      rw [bl_append]; simp only [bl]; omega)
    clear h he ho ho' hz hyx hyy p1 p2 hn3 hd3 h0
    go_enter Tryz.func118, Tryz.ntmps118
    go_wp2_with fail
    rw [← hw1, ← hZ]
    clear hw1 hZ
    go_still_tail 8, (by kernel_rfl)
    go_wp2_with fail
    refine HNL.out.mono ?_
    intro e w2 hwr
    rcases hwr with ⟨h1, rfl, h3⟩ | ⟨h1, rfl, v2, h2, h3, h4, h5, h6⟩
    · have H1 := Lib.hid h1
      have H3 := Lib.hid h3
      clear h1 h3
      go_wp2
      go_ret
      have hno : ¬ hasO Li Di (Opi.nat ⟨x, (nn : Int), (dd : Int)⟩) := fun e => H1.out (PI.out.1 e).1
      exact .inl ⟨by rw [HER.out.2 hno]; decide, by rw [HER.out.2 hno]; rfl, (stay.of_below (B1.out.drew)).trans H3.out⟩
    · have H1 := Lib.hid h1
      have PK2 := Lib.hid (PD.out.litw h3 h4 h5 h2)
      have S2 := Lib.hid ((stay.of_below (B1.out.drew)).trans h5)
      have O2 : Hid (Only (pko g v wl wd) w w2) := Lib.hid ((Only.of_below B1.out.drew).trans (h4.mono (fun i hi => hi.imp id .inl)))
      have A2 : Hid (later w v v2) := Lib.hid (later_le h6 (by exact B1.out.size))
      have q1' : w2.cell? ⟨Z + 1, 1, none⟩ = some (.pointer (some ⟨cd, 0, none⟩)) := (h5.blk (Blk.draws K2.out 1) ⟨by decide, by decide, by decide⟩).cell 1
      have k2' : w2.cell? ⟨Z, 2, none⟩ = some (.int .i64 (dd : Int)) := (h5.blk (Blk.draws K1.out 1) ⟨by decide, by decide, by decide⟩).cell 2
      have r0' : w2.cell? ⟨e0, 0, none⟩ = some (.pointer (some ⟨g, 0, none⟩)) := (h5.blk (Blk.draws E1.out 1) ⟨by decide, by decide, by decide⟩).cell 0
      have PD2 := Lib.hid (PK2.out.below (Below.refl _ w2).drew)
      have HN2 := Lib.hid (HND.out w2.drew v2 _ PD2.out.b PD2.out.w HBL.out)
      clear h1 h2 h3 h4 h5 h6 k0 k1 k2 q0 q1 r0
      go_wp2_with fail
      go_still_tail 8, (by kernel_rfl)
      go_wp2_with fail
      refine HN2.out.mono ?_
      intro e w3 hwr
      rcases hwr with ⟨h1, rfl, h3⟩ | ⟨g1, rfl, v3, h2, h3, h4, h5, h6⟩
      · have H2 := Lib.hid h1
        have H3 := Lib.hid h3
        clear h1 h3
        go_wp2
        go_ret
        have hno : ¬ hasO Li Di (Opi.nat ⟨x, (nn : Int), (dd : Int)⟩) := fun e => H2.out (PI.out.1 e).2
        exact .inl ⟨by rw [HER.out.2 hno]; decide, by rw [HER.out.2 hno]; rfl, (S2.out.trans (stay.of_below ((Below.refl _ w2).drew))).trans H3.out⟩
      · have G1 := Lib.hid g1
        have PK3 := Lib.hid (PD2.out.disw h3 h4 h5 h2)
        have S3 := Lib.hid ((S2.out.trans (stay.of_below ((Below.refl _ w2).drew))).trans h5)
        have O3 : Hid (Only (pko g v2 wl wd) w2.drew w3) := Lib.hid (h4.mono (fun i hi => hi.imp id .inr))
        have A3 := Lib.hid h6
        clear g1 h2 h3 h4 h5 h6
        go_wp2
        go_ret
        have hyes : hasO Li Di (Opi.nat ⟨x, (nn : Int), (dd : Int)⟩) := PI.out.2 ⟨H1.out, G1.out⟩
        refine .inr ⟨HER.out.1 hyes, rfl, v3, ?_, ?_, S3.out, later_trans A2.out A3.out O2.out.size⟩
        · rw [P2.out]
          have e := PK3.out
          rw [List.append_assoc] at e
          exact e
        · exact pko_then O2.out A2.out (undr O3.out)

theorem opsE_cons {o : Opx} {r : List Opx} : opsE Li Di (o :: r) = if hasO Li Di o then opsE Li Di r else 1 := rfl
set_option maxHeartbeats 2000000 in
set_option maxRecDepth 100000 in
theorem ops_any {W : World} {Ao : Option Addr} {co : Nat} {os : List Opi} (hos : opr W Ao os) (hok : ∀ o ∈ os, okI o) (hW : Below W.heap.size W w) (hB : B = W.heap.size) (h : pk B w cl wl cd wd Li Di g v l) (he : Blk w e0 107 #[.pointer (some ⟨g, 0, none⟩), x1, x2]) (hz : bl l + opsB (os.map Opi.nat) ≤ 281474976700000) :
    Calls Tryz.prog 81 #[.pointer (some ⟨e0, 0, none⟩), .slice Ao os.length co, .agg #[.pointer (some ⟨cl, 0, none⟩), .pointer (some ⟨cd, 0, none⟩)]] w
      (pkR B w cl wl cd wd Li Di g v l (opsE Li Di (os.map Opi.nat)) (encOs Li Di (os.map Opi.nat))) := by
  obtain ⟨N, hN⟩ : ∃ N, N = os.length := ⟨_, rfl⟩
  rw [← hN]
  have hBs : Hid (B ≤ w.heap.size) := Lib.hid h.w.size
  obtain ⟨w1, hw1⟩ : ∃ w1, w1 = w.alloc (.cells #[.pointer (some ⟨cl, 0, none⟩), .pointer (some ⟨cd, 0, none⟩)] 103) := ⟨_, rfl⟩
  have B1 : Hid (Below w.heap.size w w1) := Lib.hid (by rw [hw1]; exact below_alloc _ _)
  obtain ⟨Z, hZ⟩ : ∃ Z, Z = w.heap.size := ⟨_, rfl⟩
  have K1 : Hid (Blk w1 Z 103 #[.pointer (some ⟨cl, 0, none⟩), .pointer (some ⟨cd, 0, none⟩)]) := Lib.hid (by rw [hw1, hZ]; exact Blk.fresh _ _ _)
  have E1 := Lib.hid (he.below B1.out)
  have P1 := Lib.hid (h.below B1.out)
  have HW := Lib.hid hW
  have HB := Lib.hid hB
  have HOS := Lib.hid hos
  have HOK := Lib.hid hok
  have HZ := Lib.hid hz
  have HN := Lib.hid hN
  obtain ⟨R, hR⟩ : ∃ R, R = opsE Li Di (os.map Opi.nat) := ⟨_, rfl⟩
  obtain ⟨X, hX⟩ : ∃ X, X = encOs Li Di (os.map Opi.nat) := ⟨_, rfl⟩
  rw [← hR, ← hX]
  have HR := Lib.hid hR
  have HX := Lib.hid hX
  have hNl : N ≤ 281474976700000 := by unfold opsB at hz; rw [List.length_map, ← hN] at hz; omega
  clear hos hok hW hB h he hz hN hR hX
  go_enter Tryz.func81, Tryz.ntmps81
  go_wp2
  rw [← hw1, ← hZ]
  clear hw1 hZ
  go_loopw [12] (fun s12 wr => ∃ (j : Nat) (v' : Value) (y : List (Nat × Nat)), s12 = .int .i64 (j : Int) ∧ j ≤ N ∧ Hid (pk B wr cl wl cd wd Li Di g v' (l ++ y)) ∧ Hid (Only (pko g v wl wd) w wr ∧ stay B w wr ∧ later w v v') ∧ Hid (R = opsE Li Di ((os.drop j).map Opi.nat)) ∧ Hid (X = y ++ encOs Li Di ((os.drop j).map Opi.nat)) ∧ Hid (bl (l ++ y) + opsB ((os.drop j).map Opi.nat) ≤ 281474976700000) ∧ Hid (Blk wr Z 103 #[.pointer (some ⟨cl, 0, none⟩), .pointer (some ⟨cd, 0, none⟩)]) ∧ Hid (Blk wr e0 107 #[.pointer (some ⟨g, 0, none⟩), x1, x2])) (fun s12 _ => N - (intOf s12).toNat)
  case atStart => exact ⟨0, v, [], rfl, Nat.zero_le _, Lib.hid (by rw [List.append_nil]; exact P1.out), Lib.hid ⟨Only.of_below B1.out, stay.of_below B1.out, .inl rfl⟩, Lib.hid (by rw [List.drop_zero]; exact HR.out), Lib.hid (by rw [List.drop_zero]; exact HX.out), Lib.hid (by rw [List.drop_zero, List.append_nil]; exact HZ.out), K1, E1⟩
  case round =>
    obtain ⟨j, v', y, rfl, hj, HP, HF, HRR, HXX, HZZ, HK, HE⟩ := hrel
    have q0 : wr.cell? ⟨Z, 0, none⟩ = some (.pointer (some ⟨cl, 0, none⟩)) := HK.out.cell 0
    have q1 : wr.cell? ⟨Z, 1, none⟩ = some (.pointer (some ⟨cd, 0, none⟩)) := HK.out.cell 1
    have r0 : wr.cell? ⟨e0, 0, none⟩ = some (.pointer (some ⟨g, 0, none⟩)) := HE.out.cell 0
    by_cases hjn : j < N
    · have hjn' : (j : Int) < (N : Int) := by omega
      have hj0 : (0 : Int) ≤ (j : Int) := by omega
      obtain ⟨o, hoj⟩ : ∃ o, os[j]? = some o := ⟨_, List.getElem?_eq_getElem (by rw [← HN.out]; exact hjn)⟩
      have hdr := drop_cons hoj
      have hoo := HOK.out o (List.mem_of_getElem? hoj)
      have hBW : Below W.heap.size W wr := by
        have := HF.out.2.1.below (W := W) (by rw [HB.out]; exact HW.out) hBs.out
        rw [HB.out] at this
        exact this
      obtain ⟨i1, i2, bb, off, hA, hbb, c0, c1, c2⟩ := HOS.out j o hoj
      subst hA
      have hk : ∀ i, wr.cell? ⟨bb, i, none⟩ = W.cell? ⟨bb, i, none⟩ := fun i => hBW.cell (p := ⟨bb, i, none⟩) hbb
      have c0' := (hk _).trans c0
      have c1' := (hk _).trans c1
      have c2' := (hk _).trans c2
      have HRS : Hid (R = if hasO Li Di o.nat then opsE Li Di ((os.drop (j + 1)).map Opi.nat) else 1) := Lib.hid (by rw [HRR.out, hdr, List.map_cons, opsE_cons])
      have HXS : Hid (X = (y ++ encO Li Di o.nat) ++ encOs Li Di ((os.drop (j + 1)).map Opi.nat)) := Lib.hid (by rw [HXX.out, hdr, List.map_cons, List.append_assoc]; rfl)
      have HZS : Hid (bl (l ++ y) + 48 + opsB ((os.drop (j + 1)).map Opi.nat) ≤ 281474976700000) := Lib.hid (by have h1 := HZZ.out; rw [hdr, List.map_cons] at h1; unfold opsB at h1 ⊢; rw [List.length_cons] at h1; omega)
      obtain ⟨w3, hw3⟩ : ∃ w3, w3 = wr.alloc (.cells #[.int .u8 (o.x.toNat : Int), .int .i64 o.n, .int .i64 o.d] 89) := ⟨_, rfl⟩
      have B3 : Hid (Below wr.heap.size wr w3) := Lib.hid (by rw [hw3]; exact below_alloc _ _)
      have HPP := Lib.hid (HP.out.below B3.out)
      have HA := Lib.hid (op_any hoo HPP.out (HE.out.below B3.out) (by have := HZS.out; omega))
      have HJN := Lib.hid hjn
      have HOL : Hid (bl (encO Li Di o.nat) ≤ 48) := Lib.hid (by
        obtain ⟨⟨A1, q1, f1, _, _, hL1, he1⟩, _, _⟩ := HP.out.a
        obtain ⟨⟨A2, q2, f2, _, _, hL2, he2⟩, _, _⟩ := HP.out.b
        have ok1 : okL Li := by rw [← hL1]; exact ⟨L_le (err_zero he1).2.1, (err_zero he1).2.2⟩
        have ok2 : okL Di := by rw [← hL2]; exact ⟨L_le (err_zero he2).2.1, (err_zero he2).2.2⟩
        exact encO_bl ok1 ok2 _)
      obtain ⟨Eo, hEo⟩ : ∃ Eo, Eo = encO Li Di o.nat := ⟨_, rfl⟩
      rw [← hEo] at HXS HA HOL
      obtain ⟨go, hgo⟩ : ∃ go : Int, go = if hasO Li Di o.nat then 0 else 1 := ⟨_, rfl⟩
      rw [← hgo] at HA
      have HGO : Hid ((go = 0 → R = opsE Li Di ((os.drop (j + 1)).map Opi.nat)) ∧ (go ≠ 0 → R = go)) := Lib.hid (by
        by_cases hh : hasO Li Di o.nat
        · rw [if_pos hh] at hgo
          rw [HRS.out, if_pos hh]
          exact ⟨fun _ => rfl, fun e => absurd hgo e⟩
        · rw [if_neg hh] at hgo
          rw [HRS.out, if_neg hh]
          exact ⟨(fun e => by rw [hgo] at e; cases e), fun _ => hgo.symm⟩)
      clear hk c0 c1 c2 hoj hdr hbb hoo hBW HRS HRR HXX HZZ hjn hEo hgo i1 i2
      obtain ⟨x, on, od⟩ := o
      dsimp only at c0' c1' c2' HA hw3
      obtain ⟨yx, hyx⟩ : ∃ yx : Int, yx = (x.toNat : Int) := ⟨_, rfl⟩
      rw [← hyx] at c0' HA hw3
      clear hyx
      have q0' : (wr.alloc (.cells #[.int .u8 yx, .int .i64 on, .int .i64 od] 89)).cell? ⟨Z, 0, none⟩ = some (.pointer (some ⟨cl, 0, none⟩)) := by rw [← hw3]; exact (HK.out.below B3.out).cell 0
      have q1' : (wr.alloc (.cells #[.int .u8 yx, .int .i64 on, .int .i64 od] 89)).cell? ⟨Z, 1, none⟩ = some (.pointer (some ⟨cd, 0, none⟩)) := by rw [← hw3]; exact (HK.out.below B3.out).cell 1
      go_wp2_with fail
      rw [← hw3]
      clear hw3 c0' c1' c2' q0 q1 r0 q0' q1'
      refine HA.out.mono ?_
      intro e w4 ha
      rcases ha with ⟨h1, rfl, h3⟩ | ⟨h1, rfl, v4, h2, h3, h4, h5⟩
      · have hg : (go != 0) = true := by simp [h1]
        have HE2 := Lib.hid (HGO.out.2 h1)
        have H1 := Lib.hid h1
        have H3 := Lib.hid h3
        clear h1 h3
        go_wp2
        go_ret
        exact .inl ⟨by rw [HE2.out]; exact H1.out, by rw [HE2.out]; rfl, (HF.out.2.1.trans (stay.of_below B3.out)).trans H3.out⟩
      · have HE2 := Lib.hid (HGO.out.1 h1)
        have K4 := Lib.hid (h4.blk (HK.out.below B3.out) ⟨by decide, by decide, by decide⟩)
        have E4 := Lib.hid (h4.blk (HE.out.below B3.out) ⟨by decide, by decide, by decide⟩)
        have P4 : Hid (pk B w4 cl wl cd wd Li Di g v4 (l ++ (y ++ Eo))) := Lib.hid (by rw [← List.append_assoc]; exact h2)
        have F4 : Hid (Only (pko g v wl wd) w w4 ∧ stay B w w4 ∧ later w v v4) := Lib.hid ⟨pko_then HF.out.1 HF.out.2.2 ((Only.of_below B3.out).trans (h3)), (HF.out.2.1.trans (stay.of_below B3.out)).trans h4, later_trans HF.out.2.2 (later_le h5 B3.out.size) HF.out.1.size⟩
        have Z4 : Hid (bl (l ++ (y ++ Eo)) + opsB ((os.drop (j + 1)).map Opi.nat) ≤ 281474976700000) := Lib.hid (by
          have a1 := HZS.out
          have a2 := HOL.out
          rw [← List.append_assoc, bl_append]
          omega)
        clear h1 h2 h3 h4 h5
        go_wp2
        go_roundw
        case rel => exact ⟨j + 1, v4, y ++ Eo, by go_num, by have := HJN.out; omega, P4, F4, HE2, HXS, Z4, K4, E4⟩
        case measure => have := HJN.out; simp [intOf]; omega
    · have hjn' : ¬ (j : Int) < (N : Int) := by omega
      have hdn : os.drop j = [] := List.drop_eq_nil_of_le (by rw [← HN.out]; omega)
      have HRE : Hid (R = if has Li 256 then 0 else 1) := Lib.hid (by rw [HRR.out, hdn]; rfl)
      have HXE : Hid (X = y ++ [sy Li 256]) := Lib.hid (by rw [HXX.out, hdn]; rfl)
      have PD := Lib.hid (HP.out.below (Below.refl _ wr).drew)
      have HWR := Lib.hid (write_any PD.out.a PD.out.w (by have := HZZ.out; omega) (y := 256) (by omega))
      rw [show ((256 : Nat) : Int) = 256 from rfl] at HWR
      clear hjn hdn
      go_wp2_with fail
      go_still_tail 6, (by kernel_rfl)
      go_wp2_with fail
      refine HWR.out.mono ?_
      intro e w2 hwr
      rcases hwr with ⟨h1, rfl, h3⟩ | ⟨h1, rfl, v2, h2, h3, h4, h5, h6⟩
      · have H1 := Lib.hid h1
        have H3 := Lib.hid h3
        clear h1 h3
        go_wp2
        go_ret
        exact .inl ⟨by rw [HRE.out, if_neg H1.out]; decide, by rw [HRE.out, if_neg H1.out]; rfl, (HF.out.2.1.trans (stay.of_below ((Below.refl _ wr).drew))).trans H3.out⟩
      · have H1 := Lib.hid h1
        have H2 := Lib.hid h2
        have H3 := Lib.hid h3
        have H4 := Lib.hid h4
        have H5 := Lib.hid h5
        have H6 := Lib.hid h6
        clear h1 h2 h3 h4 h5 h6
        go_wp2
        go_ret
        refine .inr ⟨by rw [HRE.out, if_pos H1.out], rfl, v2, ?_, ?_, (HF.out.2.1.trans (stay.of_below ((Below.refl _ wr).drew))).trans H5.out, later_trans HF.out.2.2 H6.out HF.out.1.size⟩
        · rw [HXE.out, ← List.append_assoc]; exact PD.out.litw H3.out H4.out H5.out H2.out
        · exact pko_then HF.out.1 HF.out.2.2 ((undr H4.out).mono (fun i hi => hi.imp id .inl))
end
end Go.Proofs.YtnkninjdpgpkmaaGreatDoor.Gy
namespace Go.Proofs.YtnkninjdpgpkmaaGreatDoor.Gz
open Go.RowKit Go.Proofs.YtnkninjdpgpkmaaGreatDoor.Vm Go.Proofs.YtnkninjdpgpkmaaGreatDoor.Vo Go.Proofs.YtnkninjdpgpkmaaGreatDoor.Bm Go.Proofs.YtnkninjdpgpkmaaGreatDoor.Bw Go.Proofs.YtnkninjdpgpkmaaGreatDoor.Bv Go.Proofs.YtnkninjdpgpkmaaGreatDoor.Bx Go.Proofs.YtnkninjdpgpkmaaGreatDoor.Na Go.Proofs.YtnkninjdpgpkmaaGreatDoor.Ni Go.Proofs.YtnkninjdpgpkmaaGreatDoor.Nm Go.Proofs.YtnkninjdpgpkmaaGreatDoor.Ne Go.Proofs.YtnkninjdpgpkmaaGreatDoor.Nh Go.Proofs.YtnkninjdpgpkmaaGreatDoor.Pm Go.Proofs.YtnkninjdpgpkmaaGreatDoor.Ko Go.Proofs.YtnkninjdpgpkmaaGreatDoor.Km Go.Proofs.YtnkninjdpgpkmaaGreatDoor.Kw Go.Proofs.YtnkninjdpgpkmaaGreatDoor.Ks Go.Proofs.YtnkninjdpgpkmaaGreatDoor.Kd Go.Proofs.YtnkninjdpgpkmaaGreatDoor.Ke Go.Proofs.YtnkninjdpgpkmaaGreatDoor.Kh Go.Proofs.YtnkninjdpgpkmaaGreatDoor.Kl Go.Proofs.YtnkninjdpgpkmaaGreatDoor.Ky Go.Proofs.YtnkninjdpgpkmaaGreatDoor.Sm Go.Proofs.YtnkninjdpgpkmaaGreatDoor.Gm Go.Proofs.YtnkninjdpgpkmaaGreatDoor.Ga Go.Proofs.YtnkninjdpgpkmaaGreatDoor.Gp Go.Proofs.YtnkninjdpgpkmaaGreatDoor.Gt Go.Proofs.YtnkninjdpgpkmaaGreatDoor.Gw Go.Proofs.YtnkninjdpgpkmaaGreatDoor.Gx Go.Proofs.YtnkninjdpgpkmaaGreatDoor.Gy

theorem pkR.one {B : Nat} {w w' : World} {cl wl cd wd g : Nat} {Li Di : List Nat} {v : Value} {l x : List (Nat × Nat)} {er : Int} {e : Ending} (h : pkR B w cl wl cd wd Li Di g v l er x e w') :
    e = .returned (.int .i64 er) ∧ stay B w w' ∧ (er = 0 → ∃ v', pk B w' cl wl cd wd Li Di g v' (l ++ x) ∧ Only (pko g v wl wd) w w' ∧ later w v v') := by
  rcases h with ⟨h1, h2, h3⟩ | ⟨h1, h2, v', h3, h4, h5, h6⟩
  · exact ⟨h2, h3, fun e => absurd e h1⟩
  · exact ⟨by rw [h2, h1], h5, fun _ => ⟨v', h3, h4, h6⟩⟩
theorem bn_text : ∀ t : List UInt8, bn (t.map (fun x => (x.toNat, 8))) = num t
  | [] => rfl
  | x :: t => by
    have e : num (x :: t) = x.toNat + 2 ^ 8 * num t := by
      have := num_append [x] t
      simp [num]
    rw [List.map_cons, bn, bn_text t, e]
section
variable {B : Nat} {w : World} {g : Nat} {v : Value} {l : List (Nat × Nat)}
theorem wrl.bytes (s : ByteArray) (h : wrl B w g v l) (h8 : bl l % 8 = 0) (hz : bl l ≤ 281474976710656) (hs : s.size ≤ 70368744177664) :
    Calls Tryz.prog 82 #[.pointer (some ⟨g, 0, none⟩), .string s] w fun e w' => e = .returned (.tuple #[]) ∧ ∃ v', wrl B w' g v' (l ++ s.data.toList.map (fun x => (x.toNat, 8))) ∧ Only (own g v) w w' := by
  obtain ⟨bs, t, e⟩ := h.t
  have hl : 8 * bs.length = bl l := by rw [t.len]; omega
  refine (wBytes_any B s t h.size hz hs).mono ?_
  rintro e' w' ⟨rfl, v', t', o', _⟩
  have hsl : s.data.toList.length = s.size := Array.length_toList
  refine ⟨rfl, v', ⟨⟨bs ++ s.data.toList, ?_, ?_⟩, h.g⟩, o'⟩
  · rw [bl_append, bl_text, hsl, ← hl, ← Nat.mul_add]; exact t'
  · rw [num_append, e, bn_append, bn_text, hl]
/-- A head that is written. -/
theorem wrl.head {b : Bool} {k z : Int} {A1 A2 : Option Addr} {n1 c1 n2 c2 : Nat} {f1 f2 : Nat → Int} (h : wrl B w g v l) (hz : bl l ≤ 281474976710656) (hn1 : n1 ≤ 9223372036854775807) (hn2 : n2 ≤ 9223372036854775807) (HR : Hid (∀ x, Only (own g v) w x → row x A1 n1 f1 ∧ row x A2 n2 f2 ∧ ordM x)) :
    Calls Tryz.prog 80 #[.pointer (some ⟨g, 0, none⟩), hv b k z (.slice A1 n1 c1) (.slice A2 n2 c2)] w fun e w' => e = .returned (.int .i64 (wrM k z n1 f1 n2 f2)) ∧ ∃ v', wrl B w' g v' (l ++ wrO b k z n1 f1 n2 f2 (bl l)) ∧ Only (own g v) w w' := by
  obtain ⟨bs, t, e⟩ := h.t
  refine (Write_any (c1 := c1) (c2 := c2) (b := b) (Lib.hid t) h.size hz hn1 hn2 HR).mono ?_
  rintro e' w' ⟨rfl, v', k'⟩
  have h2 := h.goes e k'
  exact ⟨rfl, v', h2.1, h2.2.1⟩
end
theorem err_fix : err 288 (ix fixL) = 0 ∧ err 32 (ix fixD) = 0 := by
  have h1 : ∀ (l : List Nat), (∀ i, nth l i ≤ 15) → ksum l 16 ≤ 32768 → l.length ≤ 320 → err l.length (ix l) = 0 := fun l h15 hk hl => by
    refine err_ok (bad_ok hl (fun i _ => ?_)) (by rw [L_ix]; omega)
    have := h15 i
    unfold ix; omega
  exact ⟨by have := h1 fixL fixL_ok.h15 fixL_ok.sum (by rw [fixL_length]; omega); rw [fixL_length] at this; exact this, by have := h1 fixD fixD_ok.h15 fixD_ok.sum (by rw [fixD_length]; omega); rw [fixD_length] at this; exact this⟩
theorem L_fix : L 288 (ix fixL) = fixL ∧ L 32 (ix fixD) = fixD := by
  have h1 := L_ix fixL
  have h2 := L_ix fixD
  rw [fixL_length] at h1
  rw [fixD_length] at h2
  exact ⟨h1, h2⟩
/-- An own row of lengths stays. -/
theorem lst_rowS {B : Nat} {w : World} {A : Option Addr} {n c : Nat} {l : List Nat} (h : lst w (.slice A n c) l) : n = l.length ∧ rowS B w A n (ix l) := by
  obtain ⟨h1, h2⟩ := lst.row h
  refine ⟨h1, h2, ?_⟩
  by_cases h0 : n = 0
  · exact .inl h0
  · rcases h.2 with ⟨e0, _⟩ | ⟨b, cap, cur, e1, _, hh, _⟩
    · injection e0 with _ e0 _; exact absurd e0 h0
    · injection e1 with e1 _ _
      exact .inr ⟨b, 0, e1, .inr ⟨_, hh⟩⟩

/-- The packer on its way. -/
structure enc (W w : World) (e0 cl wl cd wd g : Nat) (v : Value) (l : List (Nat × Nat)) : Prop where
  e : Blk w e0 107 #[.pointer (some ⟨g, 0, none⟩), .pointer (some ⟨cl, 0, none⟩), .pointer (some ⟨cd, 0, none⟩)]
  p : pk W.heap.size w cl wl cd wd fixL fixD g v l
  b : Below W.heap.size W w
section
variable {W w w' : World} {e0 cl wl cd wd g : Nat} {v v' : Value} {l l' : List (Nat × Nat)}
theorem enc.below (h : enc W w e0 cl wl cd wd g v l) (k : Below w.heap.size w w') : enc W w' e0 cl wl cd wd g v l := ⟨h.e.below k, h.p.below k, grows h.b k⟩
theorem enc.size (h : enc W w e0 cl wl cd wd g v l) : W.heap.size ≤ w.heap.size := h.b.size
theorem enc.wr (h : enc W w e0 cl wl cd wd g v l) (k : wrl W.heap.size w' g v' l') (o : Only (own g v) w w') : enc W w' e0 cl wl cd wd g v' l' := by
  have s := h.p.w.stay o
  obtain ⟨⟨_, h1⟩, ⟨_, h2⟩⟩ := h.p.words
  exact ⟨s.blk h.e ⟨by decide, by decide, by decide⟩, ⟨h.p.a.only s o (own_not h.p.w h1 ⟨by decide, by decide⟩), h.p.b.only s o (own_not h.p.w h2 ⟨by decide, by decide⟩), h.p.ne, k⟩, s.below h.b h.b.size⟩
end
/-- What part leaves. -/
def ptR (W : World) (e0 cl wl cd wd g : Nat) (er : Int) (l : List (Nat × Nat)) (e : Ending) (w' : World) : Prop :=
  e = .returned (.int .i64 er) ∧ Below W.heap.size W w' ∧ (er = 0 → ∃ v', enc W w' e0 cl wl cd wd g v' l)
theorem okI_of : ∀ (os : List Opi) (b : List UInt8), (opsT b os).1 = 0 → ∀ o ∈ os, okI o
  | [], _, _, _, h => by cases h
  | o :: r, b, h, x, hx => by
    rw [opsT_cons] at h
    by_cases h0 : opW b.length o = 0
    · rw [if_pos h0] at h
      rcases List.mem_cons.1 hx with rfl | hx
      · rcases opW_zero h0 with h | ⟨h1, h2, h3, h4, _⟩
        · exact .inl h
        · exact .inr ⟨h1, h2, h3, h4⟩
      · exact okI_of r _ h x hx
    · rw [if_neg h0] at h; exact absurd h h0
theorem fitsI_err {n1 n2 : Nat} {f1 f2 : Nat → Int} (h : fitsI n1 f1 n2 f2 = 0) : err n1 f1 = 0 ∧ err n2 f2 = 0 := by
  unfold fitsI at h
  by_cases c4 : f1 256 = 0
  · rw [if_pos c4] at h; cases h
  rw [if_neg c4] at h
  by_cases c5 : fit n1 f1 true ≠ 0
  · rw [if_pos c5] at h; exact absurd h c5
  rw [if_neg c5] at h
  exact ⟨fit_zero (show fit n1 f1 true = 0 by omega), fit_zero h⟩
theorem dyn_ops {W w : World} {e0 cl wl cd wd g xl yl xd yd N co : Nat} {v : Value} {l : List (Nat × Nat)} {Li Di : List Nat} {Ao : Option Addr} {os : List Opi} {b : List UInt8} (hos : opr W Ao os) (ht : (opsT b os).1 = 0) (h : enc W w e0 cl wl cd wd g v l)
    (q1 : cod W.heap.size w xl yl Li) (q2 : cod W.heap.size w xd yd Di) (q3 : yl ≠ yd) (hN : N = os.length) (hz : bl l + opsB (os.map Opi.nat) ≤ 281474976700000) :
    Calls Tryz.prog 81 #[.pointer (some ⟨e0, 0, none⟩), .slice Ao N co, .agg #[.pointer (some ⟨xl, 0, none⟩), .pointer (some ⟨xd, 0, none⟩)]] w fun e w' => e = .returned (.int .i64 (opsE Li Di (os.map Opi.nat))) ∧ stay W.heap.size w w' ∧ (opsE Li Di (os.map Opi.nat) = 0 → ∃ v', pk W.heap.size w' xl yl xd yd Li Di g v' (l ++ encOs Li Di (os.map Opi.nat)) ∧ Only (pko g v yl yd) w w' ∧ later w v v') := by
  rw [hN]
  exact (ops_any hos (okI_of os b ht) h.b rfl ⟨q1, q2, q3, h.p.w⟩ h.e hz).mono (fun e w' ho => pkR.one ho)
set_option maxHeartbeats 4000000 in
set_option maxRecDepth 100000 in
theorem part_any {W w : World} {e0 cl wl cd wd g : Nat} {v : Value} {l : List (Nat × Nat)} {p : Pz} {fin : Bool} {Ao A1 A2 : Option Addr} {co c1 c2 : Nat} {b : List UInt8} (h : enc W w e0 cl wl cd wd g v l) (hO : ordM W) (hos : opr W Ao p.os)
    (h1 : rowS W.heap.size W A1 p.n1 p.f1) (h2 : rowS W.heap.size W A2 p.n2 p.f2) (hn1 : p.n1 ≤ 9223372036854775807) (hn2 : p.n2 ≤ 9223372036854775807) (ht : (ptT b p).1 = 0) (hz : bl l + ptB p ≤ 281474976700000) :
    Calls Tryz.prog 49 #[.pointer (some ⟨e0, 0, none⟩), .agg #[.int .i64 p.k, .string p.t, .slice Ao p.os.length co, .slice A1 p.n1 c1, .slice A2 p.n2 c2], .bool fin] w (ptR W e0 cl wl cd wd g (ptE p) (l ++ encP p.pt fin (bl l))) := by
  obtain ⟨R, hR⟩ : ∃ R, R = ptE p := ⟨_, rfl⟩
  obtain ⟨X, hX⟩ : ∃ X, X = l ++ encP p.pt fin (bl l) := ⟨_, rfl⟩
  rw [← hR, ← hX]
  obtain ⟨w1, hw1⟩ : ∃ w1, w1 = (w.alloc (.cells #[.int .i64 p.k, .string p.t, .slice Ao p.os.length co, .slice A1 p.n1 c1, .slice A2 p.n2 c2] 92)).alloc (.cells #[.bool fin, .int .i64 p.k, .int .i64 (p.t.size : Int), .slice A1 p.n1 c1, .slice A2 p.n2 c2] 143) := ⟨_, rfl⟩
  obtain ⟨Z, hZ⟩ : ∃ Z, Z = w.heap.size := ⟨_, rfl⟩
  have B1 : Hid (Below w.heap.size w w1) := Lib.hid (by rw [hw1]; exact grows (below_alloc _ _) (below_alloc _ _))
  have K1 : Hid (Blk w1 Z 92 #[.int .i64 p.k, .string p.t, .slice Ao p.os.length co, .slice A1 p.n1 c1, .slice A2 p.n2 c2]) := Lib.hid (by rw [hw1, hZ]; exact (Blk.fresh _ _ _).below (below_alloc _ _))
  have K2 : Hid (Blk w1 (Z + 1) 143 #[.bool fin, .int .i64 p.k, .int .i64 (p.t.size : Int), .slice A1 p.n1 c1, .slice A2 p.n2 c2]) := Lib.hid (by
    rw [hw1, hZ]
    have := Blk.fresh (w.alloc (.cells #[.int .i64 p.k, .string p.t, .slice Ao p.os.length co, .slice A1 p.n1 c1, .slice A2 p.n2 c2] 92)) 143 #[.bool fin, .int .i64 p.k, .int .i64 (p.t.size : Int), .slice A1 p.n1 c1, .slice A2 p.n2 c2]
    rw [size_alloc] at this
    exact this)
  have E1 := Lib.hid (h.below B1.out)
  have ED := Lib.hid (E1.out.below (Below.refl _ w1).drew)
  have HSZ : Hid (p.t.size ≤ 70368744177664 ∧ bl l ≤ 281474976700000) := Lib.hid (by unfold ptB at hz; omega)
  have HWR := Lib.hid (wrl.head (b := fin) (k := p.k) (z := (p.t.size : Int)) (A1 := A1) (n1 := p.n1) (c1 := c1) (f1 := p.f1) (A2 := A2) (n2 := p.n2) (c2 := c2) (f2 := p.f2) ED.out.p.w (by have := HSZ.out.2; omega) hn1 hn2 (Lib.hid (fun x o => by
    have s := (ED.out.p.w.stay o).below ED.out.b ED.out.b.size
    exact ⟨h1.1.below s, h2.1.below s, hO.below s⟩)))
  have HOS := Lib.hid hos
  have R1 := Lib.hid h1
  have R2 := Lib.hid h2
  have HT := Lib.hid ht
  have HZ := Lib.hid hz
  have HR := Lib.hid hR
  have HX := Lib.hid hX
  have k0 : w1.cell? ⟨Z, 0, none⟩ = some (.int .i64 p.k) := K1.out.cell 0
  have j0 : w1.cell? ⟨Z + 1, 0, none⟩ = some (.bool fin) := K2.out.cell 0
  have j1 : w1.cell? ⟨Z + 1, 1, none⟩ = some (.int .i64 p.k) := K2.out.cell 1
  have j2 : w1.cell? ⟨Z + 1, 2, none⟩ = some (.int .i64 (p.t.size : Int)) := K2.out.cell 2
  have j3 : w1.cell? ⟨Z + 1, 3, none⟩ = some (.slice A1 p.n1 c1) := K2.out.cell 3
  have j4 : w1.cell? ⟨Z + 1, 4, none⟩ = some (.slice A2 p.n2 c2) := K2.out.cell 4
  have r0 : w1.cell? ⟨e0, 0, none⟩ = some (.pointer (some ⟨g, 0, none⟩)) := E1.out.e.cell 0
  obtain ⟨M, hM⟩ : ∃ M, M = wrM p.k (p.t.size : Int) p.n1 p.f1 p.n2 p.f2 := ⟨_, rfl⟩
  have HM := Lib.hid hM
  rw [← hM] at HWR
  clear h hO hos h1 h2 hn1 hn2 ht hz hR hX hM
  obtain ⟨k, t, os, n1, f1, n2, f2⟩ := p
  dsimp only at *
  obtain ⟨No, hNo⟩ : ∃ No, No = os.length := ⟨_, rfl⟩
  rw [← hNo] at hw1 K1 ⊢
  have HNO := Lib.hid hNo
  clear hNo
  go_enter Tryz.func49, Tryz.ntmps49
  go_wp2_with fail
  rw [← hw1, ← hZ]
  clear hw1 hZ
  go_still_tail 5, (by kernel_rfl)
  go_wp2_with fail
  refine HWR.out.mono ?_
  rintro e w2 ⟨rfl, v2, k2, o2⟩
  have E2 := Lib.hid (ED.out.wr k2 o2)
  have S2 : Hid (stay W.heap.size w1 w2) := Lib.hid ((stay.of_below (Below.refl _ w1).drew).trans (ED.out.p.w.stay o2))
  have KP : Hid (Blk w2 Z 92 #[.int .i64 k, .string t, .slice Ao No co, .slice A1 n1 c1, .slice A2 n2 c2]) := Lib.hid (S2.out.blk K1.out ⟨by decide, by decide, by decide⟩)
  clear k2 o2 HWR k0 j0 j1 j2 j3 j4 r0
  by_cases hM0 : M = 0
  · have hMb : (M != 0) = false := by simp [hM0]
    subst hM0
    have HHW := Lib.hid (wr_part (p := ⟨k, t, os, n1, f1, n2, f2⟩) (by exact HM.out.symm))
    have HWO : Hid (wrO fin k (t.size : Int) n1 f1 n2 f2 (bl l) = outM (hdP (Pz.pt ⟨k, t, os, n1, f1, n2, f2⟩) fin) (bl l)) := Lib.hid (by
      unfold wrO
      rw [if_pos HM.out.symm]
      unfold hdP Pz.pt
      simp only [Array.length_toList, Int.toNat_natCast]
      rfl)
    rw [HWO.out] at E2
    have HOB : Hid (bl (outM (hdP (Pz.pt ⟨k, t, os, n1, f1, n2, f2⟩) fin) (bl l)) ≤ 1400) := Lib.hid (outM_bl (okH_fin fin HHW.out.1) _)
    have HRR : Hid (R = if k = 0 then 0 else opsE (lis (Pz.pt ⟨k, t, os, n1, f1, n2, f2⟩)) (dis (Pz.pt ⟨k, t, os, n1, f1, n2, f2⟩)) (os.map Opi.nat)) := Lib.hid (by
      rw [HR.out]
      unfold ptE
      dsimp only
      rw [← HM.out, if_neg (by decide)]
      rfl)
    obtain ⟨Y, hY⟩ : ∃ Y, Y = l ++ outM (hdP (Pz.pt ⟨k, t, os, n1, f1, n2, f2⟩) fin) (bl l) := ⟨_, rfl⟩
    rw [← hY] at E2
    have HY := Lib.hid hY
    have HYB : Hid (bl Y ≤ bl l + 1400) := Lib.hid (by rw [hY, bl_append]; have := HOB.out; omega)
    have HXX : Hid (X = Y ++ bodP (Pz.pt ⟨k, t, os, n1, f1, n2, f2⟩)) := Lib.hid (by rw [HX.out, hY, encP, List.append_assoc])
    clear hY
    have a0 : w2.cell? ⟨Z, 0, none⟩ = some (.int .i64 k) := KP.out.cell 0
    have a1 : w2.cell? ⟨Z, 1, none⟩ = some (.string t) := KP.out.cell 1
    have a2 : w2.cell? ⟨Z, 2, none⟩ = some (.slice Ao No co) := KP.out.cell 2
    have a3 : w2.cell? ⟨Z, 3, none⟩ = some (.slice A1 n1 c1) := KP.out.cell 3
    have a4 : w2.cell? ⟨Z, 4, none⟩ = some (.slice A2 n2 c2) := KP.out.cell 4
    have b0 : w2.cell? ⟨e0, 0, none⟩ = some (.pointer (some ⟨g, 0, none⟩)) := E2.out.e.cell 0
    have b1 : w2.cell? ⟨e0, 1, none⟩ = some (.pointer (some ⟨cl, 0, none⟩)) := E2.out.e.cell 1
    have b2 : w2.cell? ⟨e0, 2, none⟩ = some (.pointer (some ⟨cd, 0, none⟩)) := E2.out.e.cell 2
    have E2D := Lib.hid (E2.out.below (Below.refl _ w2).drew)
    have hk := HHW.out.2
    dsimp only at hk
    rcases (show k = 0 ∨ k = 1 ∨ k = 2 by omega) with h | h | h
    · subst h
      have H8 : Hid (bl Y % 8 = 0) := Lib.hid (by
        rw [HY.out, bl_append]
        unfold outM
        rw [if_pos (show (hdP (Pz.pt ⟨0, t, os, n1, f1, n2, f2⟩) fin).kind = 0 from rfl)]
        simp only [bl, List.cons_append, List.nil_append, padZ]
        omega)
      have HBY := Lib.hid (wrl.bytes t E2D.out.p.w H8.out (by have h1 := HYB.out; have h2 := HSZ.out.2; omega) HSZ.out.1)
      have HB0 : Hid (bodP (Pz.pt ⟨0, t, os, n1, f1, n2, f2⟩) = t.data.toList.map (fun x => (x.toNat, 8))) := Lib.hid (by unfold bodP; rw [if_pos (show (Pz.pt ⟨0, t, os, n1, f1, n2, f2⟩).kind = 0 from rfl)]; rfl)
      have HR0 : Hid (R = 0) := Lib.hid (by rw [HRR.out, if_pos rfl])
      clear hk
      go_wp2_with fail
      go_still_tail 6, (by kernel_rfl)
      go_wp2_with fail
      refine HBY.out.mono ?_
      rintro e w3 ⟨rfl, v3, k3, o3⟩
      have E3 := Lib.hid (E2D.out.wr k3 o3)
      clear k3 o3
      go_wp2
      go_ret
      exact ⟨by rw [HR0.out]; rfl, E3.out.b, fun _ => ⟨v3, by rw [HXX.out, HB0.out]; exact E3.out⟩⟩
    · subst h
      have HPT : Hid ((opsT b os).1 = 0) := Lib.hid (by have := HT.out; unfold ptT at this; dsimp only at this; rw [if_neg (by omega), if_neg (by omega)] at this; exact this)
      have HL : Hid (lis (Pz.pt ⟨1, t, os, n1, f1, n2, f2⟩) = fixL ∧ dis (Pz.pt ⟨1, t, os, n1, f1, n2, f2⟩) = fixD) := Lib.hid ⟨if_pos rfl, if_pos rfl⟩
      have HB0 : Hid (bodP (Pz.pt ⟨1, t, os, n1, f1, n2, f2⟩) = encOs fixL fixD (os.map Opi.nat)) := Lib.hid (by unfold bodP; rw [if_neg (show ¬ (Pz.pt ⟨1, t, os, n1, f1, n2, f2⟩).kind = 0 by show ¬ (1 : Nat) = 0; decide), HL.out.1, HL.out.2]; rfl)
      have HR0 : Hid (R = opsE fixL fixD (os.map Opi.nat)) := Lib.hid (by rw [HRR.out, if_neg (by decide), HL.out.1, HL.out.2])
      have HOP := Lib.hid (ops_any (co := co) HOS.out (okI_of os b HPT.out) E2D.out.b rfl E2D.out.p E2D.out.e (by have h1 := HYB.out; have h2 := HZ.out; unfold ptB at h2; have e : (Pz.pt ⟨1, t, os, n1, f1, n2, f2⟩).ops = os.map Opi.nat := rfl; rw [e] at h2; omega))
      rw [← HNO.out] at HOP
      clear hk
      go_wp2_with fail
      go_still_tail 7, (by kernel_rfl)
      go_wp2_with fail
      refine HOP.out.mono ?_
      intro e w3 ho
      obtain ⟨rfl, h3, h4⟩ := pkR.one ho
      have H3 := Lib.hid h3
      have H4 := Lib.hid h4
      clear ho h3 h4
      go_wp2
      go_ret
      have s3 := H3.out.below E2D.out.b E2D.out.b.size
      refine ⟨by rw [HR0.out]; rfl, s3, fun e => ?_⟩
      obtain ⟨v3, p3, o3, l3⟩ := H4.out (by rw [← HR0.out]; exact e)
      exact ⟨v3, H3.out.blk E2D.out.e ⟨by decide, by decide, by decide⟩, by rw [HXX.out, HB0.out]; exact p3, s3⟩
    · subst h
      have HPT : Hid ((opsT b os).1 = 0) := Lib.hid (by have := HT.out; unfold ptT at this; dsimp only at this; rw [if_neg (by omega), if_neg (by omega)] at this; exact this)
      have HL : Hid (lis (Pz.pt ⟨2, t, os, n1, f1, n2, f2⟩) = L n1 f1 ∧ dis (Pz.pt ⟨2, t, os, n1, f1, n2, f2⟩) = L n2 f2) := Lib.hid ⟨if_neg (show ¬ (2 : Nat) = 1 by decide), if_neg (show ¬ (2 : Nat) = 1 by decide)⟩
      have HB0 : Hid (bodP (Pz.pt ⟨2, t, os, n1, f1, n2, f2⟩) = encOs (L n1 f1) (L n2 f2) (os.map Opi.nat)) := Lib.hid (by unfold bodP; rw [if_neg (show ¬ (Pz.pt ⟨2, t, os, n1, f1, n2, f2⟩).kind = 0 by show ¬ (2 : Nat) = 0; decide), HL.out.1, HL.out.2]; rfl)
      have HR0 : Hid (R = opsE (L n1 f1) (L n2 f2) (os.map Opi.nat)) := Lib.hid (by rw [HRR.out, if_neg (by decide), HL.out.1, HL.out.2])
      have HER : Hid (err n1 f1 = 0 ∧ err n2 f2 = 0) := Lib.hid (by
        have h1 := HM.out.symm
        unfold wrM at h1
        rw [if_neg (by omega), if_pos rfl] at h1
        by_cases c : n1 < 257 ∨ 286 < n1 ∨ n2 < 1 ∨ 30 < n2
        · rw [if_pos c] at h1; cases h1
        · rw [if_neg c] at h1
          exact fitsI_err h1)
      have sW : stay W.heap.size W w2.drew := stay.of_below E2D.out.b
      have HNC := Lib.hid (newCodes_any (c1 := c1) (c2 := c2) (R1.out.stay sW) HER.out.1 (R2.out.stay sW) HER.out.2 E2D.out.b.size)
      have KPD := Lib.hid (KP.out.below (Below.refl _ w2).drew)
      clear hk sW
      go_wp2_with fail
      go_region_held3 (fun u => u.cell? ⟨Z, 2, none⟩ = some (.slice Ao No co) ∧ u.cell? ⟨Z, 3, none⟩ = some (.slice A1 n1 c1) ∧ u.cell? ⟨Z, 4, none⟩ = some (.slice A2 n2 c2))
        (first | exact ⟨a2, a3, a4⟩ | assumption)
        (first | (go_at_call 46; refine HNC.out.mono ?_; rintro e w3 ⟨xl, yl, xd, yd, rfl, q1, q2, q3, q4, q5, q6⟩; have Q1 := Lib.hid q1; have Q2 := Lib.hid q2; have Q3 := Lib.hid q3; have Q4 := Lib.hid q4; have Q5 := Lib.hid q5; have E3 := Lib.hid (E2D.out.below q6); have KP3 := Lib.hid (KPD.out.below q6); have p3 : w3.cell? ⟨Z, 2, none⟩ = some (.slice Ao No co) ∧ w3.cell? ⟨Z, 3, none⟩ = some (.slice A1 n1 c1) ∧ w3.cell? ⟨Z, 4, none⟩ = some (.slice A2 n2 c2) := ⟨KP3.out.cell 2, KP3.out.cell 3, KP3.out.cell 4⟩; clear q1 q2 q3 q4 q5 q6) | (go_at_call 81; refine (dyn_ops HOS.out HPT.out E3.out Q1.out Q2.out Q3.out HNO.out (by have h1 := HYB.out; have h2 := HZ.out; unfold ptB at h2; have e : (Pz.pt ⟨2, t, os, n1, f1, n2, f2⟩).ops = os.map Opi.nat := rfl; rw [e] at h2; omega)).mono ?_; rintro e w4 ⟨rfl, h5, h6⟩; have H5 := Lib.hid h5; have H6 := Lib.hid h6; have KP4 := Lib.hid (h5.blk KP3.out ⟨by decide, by decide, by decide⟩); have p4 : w4.cell? ⟨Z, 2, none⟩ = some (.slice Ao No co) ∧ w4.cell? ⟨Z, 3, none⟩ = some (.slice A1 n1 c1) ∧ w4.cell? ⟨Z, 4, none⟩ = some (.slice A2 n2 c2) := ⟨KP4.out.cell 2, KP4.out.cell 3, KP4.out.cell 4⟩; clear h5 h6))
      go_wp2
      go_ret
      have s3 := H5.out.below E3.out.b E3.out.b.size
      refine ⟨by rw [HR0.out]; rfl, s3, fun e => ?_⟩
      obtain ⟨v3, p3', o3, l3⟩ := H6.out (by rw [← HR0.out]; exact e)
      obtain ⟨⟨_, m1⟩, ⟨_, m2⟩⟩ := E3.out.p.words
      obtain ⟨⟨_, m3⟩, ⟨_, m4⟩⟩ := E2D.out.p.words
      have lt1 := m3.lt
      have lt2 := m4.lt
      have g4 := Q4.out
      have g5 := Q5.out
      refine ⟨v3, H5.out.blk E3.out.e ⟨by decide, by decide, by decide⟩, ⟨E3.out.p.a.only H5.out o3 (fun e => ?_), E3.out.p.b.only H5.out o3 (fun e => ?_), E3.out.p.ne, by rw [HXX.out, HB0.out]; exact p3'.w⟩, s3⟩
      · rcases e with e | e | e
        · exact own_not E3.out.p.w m1 ⟨by decide, by decide⟩ e
        · omega
        · omega
      · rcases e with e | e | e
        · exact own_not E3.out.p.w m2 ⟨by decide, by decide⟩ e
        · omega
        · omega
  · have hMb : (M != 0) = true := by simp [hM0]
    have HR0 : Hid (R = M) := Lib.hid (by
      rw [HR.out]
      unfold ptE
      dsimp only
      rw [← HM.out, if_pos hM0])
    have HM0 := Lib.hid hM0
    clear hM0
    go_wp2
    go_ret
    exact ⟨by rw [HR0.out]; rfl, E2.out.b, fun e => absurd (HR0.out.symm.trans e) HM0.out⟩

theorem okT_cons {b : List UInt8} {p : Pz} {r : List Pz} (h : (ptsT b (p :: r)).1 = 0) : (ptT b p).1 = 0 ∧ (ptsT (ptT b p).2 r).1 = 0 := by
  simp only [ptsT] at h
  by_cases h0 : (ptT b p).1 = 0
  · rw [if_pos h0] at h; exact ⟨h0, h⟩
  · rw [if_neg h0] at h; exact absurd h h0
theorem encPs_cons (p : Pt) (r : List Pt) (z : Nat) : encPs (p :: r) z = encP p r.isEmpty z ++ encPs r (z + bl (encP p r.isEmpty z)) := rfl
/-- What Encode answers. -/
def encS (l : List Pz) (S : ByteArray) : Prop := (encE l ≠ 0 → S = ⟨#[]⟩) ∧ (encE l = 0 → holds S (encPs (l.map Pz.pt) 0))
/-- Parts whose lists stay. -/
def ptrS (w : World) (A : Option Addr) (l : List Pz) : Prop := ∀ i p, l[i]? = some p → ∃ b off : Nat, A = some ⟨b, off, none⟩ ∧ b < w.heap.size ∧ part1 w b (off + i * 5) p ∧ ∀ A1 c1 A2 c2, w.cell? ⟨b, off + i * 5 + 3, none⟩ = some (.slice A1 p.n1 c1) → w.cell? ⟨b, off + i * 5 + 4, none⟩ = some (.slice A2 p.n2 c2) → rowS w.heap.size w A1 p.n1 p.f1 ∧ rowS w.heap.size w A2 p.n2 p.f2
theorem row_rowS {w : World} {A : Option Addr} {n : Nat} {f : Nat → Int} (h : row w A n f) : rowS w.heap.size w A n f := by
  refine ⟨h, ?_⟩
  by_cases h0 : n = 0
  · exact .inl h0
  · obtain ⟨b, off, e, hl, _⟩ := h 0 (by omega)
    exact .inr ⟨b, off, e, .inl hl⟩
set_option maxHeartbeats 4000000 in
set_option maxRecDepth 100000 in
theorem Encode_any {W : World} {A : Option Addr} {c : Nat} {l : List Pz} (h : ptr W A l) (hO : ordM W) (hc : ptsC l ≤ 1000000) (hl : l.length ≤ 1000000) (ho : ∀ p ∈ l, p.os.length ≤ 1000000) (hb : ptsB l ≤ 281474976000000) :
    Calls Tryz.prog 24 #[.slice A l.length c] W fun e w' => ∃ S, e = .returned (.tuple #[.string S, .int .i64 (encE l)]) ∧ encS l S ∧ Below W.heap.size W w' := by
  have HTX := Lib.hid (Text_any (c := c) h hc hl ho)
  obtain ⟨N, hN⟩ : ∃ N, N = l.length := ⟨_, rfl⟩
  rw [← hN] at HTX hl ⊢
  have HN := Lib.hid hN
  have H := Lib.hid h
  have HO := Lib.hid hO
  have HB := Lib.hid hb
  obtain ⟨R, hR⟩ : ∃ R, R = encE l := ⟨_, rfl⟩
  rw [← hR]
  have HR := Lib.hid hR
  obtain ⟨T, hT⟩ : ∃ T, T = textM l := ⟨_, rfl⟩
  rw [← hT] at HTX
  have HT := Lib.hid hT
  obtain ⟨te, tt⟩ := T
  dsimp only at HTX
  obtain ⟨TS, hTS⟩ : ∃ TS : ByteArray, TS = ⟨tt.toArray⟩ := ⟨_, rfl⟩
  rw [← hTS] at HTX
  clear h hO hc ho hb hN hR hT hTS
  by_cases h0 : te = 0
  · have hb0 : (te != 0) = false := by simp [h0]
    have HT0 : Hid ((ptsT [] l).1 = 0 ∧ l ≠ [] ∧ R = ptsE l) := Lib.hid (by
      have hne : l ≠ [] := fun e => by
        have := HT.out
        rw [e, textM_nil] at this
        injection this with this _
        rw [h0] at this; cases this
      have h1 := HT.out
      rw [textM_cons hne] at h1
      have h2 : (ptsT [] l).1 = 0 := by
        by_cases h3 : (ptsT [] l).1 = 0
        · exact h3
        · rw [if_neg h3] at h1
          injection h1 with h1 _
          rw [h0] at h1; exact h1.symm
      refine ⟨h2, hne, ?_⟩
      rw [HR.out]
      unfold encE
      rw [← HT.out, if_neg (by show ¬ te ≠ 0; rw [h0]; decide)])
    subst h0
    have HN0 : Hid (0 < N) := Lib.hid (by rw [HN.out]; exact List.length_pos_iff.2 HT0.out.2.1)
    obtain ⟨M, hM⟩ : ∃ M, M = N - 1 := ⟨_, rfl⟩
    have hsub : IntKind.i64.wrap ((N : Int) - 1) = (M : Int) := by rw [IntKind.wrap_i64]; have := HN0.out; omega
    have HMM := Lib.hid hM
    clear hM
    go_enter Tryz.func24, Tryz.ntmps24
    go_wp2_with fail
    refine HTX.out.mono ?_
    rintro e w1 ⟨rfl, b1⟩
    have B1 := Lib.hid b1
    clear b1
    go_wp2_with fail
    refine (Open_any w1).mono ?_
    rintro e w2 ⟨g, rfl, t2, hg, b2⟩
    have W2 : Hid (wrl W.heap.size w2 g (.slice none 0 0) []) := Lib.hid ⟨⟨[], ⟨t2.b, World.ownsRow_nil _ _ _ _, t2.lt, t2.len⟩, rfl⟩, by rw [hg]; exact B1.out.size⟩
    have B2 := Lib.hid (grows B1.out b2)
    clear t2 hg b2
    go_wp2_with fail
    refine (FixedLits_any w2).mono ?_
    rintro e w3 ⟨v3, rfl, i3, b3⟩
    obtain ⟨A3, c3, hv3⟩ := ints.form i3
    subst hv3
    obtain ⟨n3, hn3⟩ : ∃ n3, n3 = (ofN fixL).length := ⟨_, rfl⟩
    rw [← hn3] at i3 ⊢
    have L3 := Lib.hid (lst_rowS (B := W.heap.size) (lst_of i3))
    have B3 := Lib.hid (grows B2.out b3)
    have W3 := Lib.hid (W2.out.below b3)
    clear i3 b3 hn3
    go_wp2_with fail
    refine (FixedDists_any w3).mono ?_
    rintro e w4 ⟨v4, rfl, i4, b4⟩
    obtain ⟨A4, c4', hv4⟩ := ints.form i4
    subst hv4
    obtain ⟨n4, hn4⟩ : ∃ n4, n4 = (ofN fixD).length := ⟨_, rfl⟩
    rw [← hn4] at i4 ⊢
    have L4 := Lib.hid (lst_rowS (B := W.heap.size) (lst_of i4))
    have B4 := Lib.hid (grows B3.out b4)
    have W4 := Lib.hid (W3.out.below b4)
    have R3 := Lib.hid (L3.out.2.stay (stay.of_below b4))
    obtain rfl : n3 = 288 := by rw [L3.out.1, fixL_length]
    obtain rfl : n4 = 32 := by rw [L4.out.1, fixD_length]
    clear i4 b4 hn4
    have HNC := Lib.hid (newCodes_any (c1 := c3) (c2 := c4') R3.out err_fix.1 L4.out.2 err_fix.2 B4.out.size)
    rw [L_fix.1, L_fix.2] at HNC
    go_wp2_with fail
    refine HNC.out.mono ?_
    rintro e w5 ⟨cl, wl, cd, wd, rfl, q1, q2, q3, q4, q5, q6⟩
    have Q1 := Lib.hid q1
    have Q2 := Lib.hid q2
    have Q3 := Lib.hid q3
    have B5 := Lib.hid (grows B4.out q6)
    have W5 := Lib.hid (W4.out.below q6)
    clear q1 q2 q3 q4 q5 q6 HNC
    obtain ⟨w6, hw6⟩ : ∃ w6, w6 = w5.alloc (.cells #[.pointer (some ⟨g, 0, none⟩), .pointer (some ⟨cl, 0, none⟩), .pointer (some ⟨cd, 0, none⟩)] 107) := ⟨_, rfl⟩
    obtain ⟨e0, he0⟩ : ∃ e0, e0 = w5.heap.size := ⟨_, rfl⟩
    have B6 : Hid (Below w5.heap.size w5 w6) := Lib.hid (by rw [hw6]; exact below_alloc _ _)
    have E6 : Hid (enc W w6 e0 cl wl cd wd g (.slice none 0 0) []) := Lib.hid ⟨by rw [hw6, he0]; exact Blk.fresh _ _ _, ⟨Q1.out.below B6.out, Q2.out.below B6.out, Q3.out, W5.out.below B6.out⟩, grows B5.out B6.out⟩
    go_wp2_with fail
    rw [← hw6, ← he0]
    clear hw6 he0
    go_loopw [26] (fun s26 wr => ∃ (j : Nat) (v : Value) (y : List (Nat × Nat)) (b : List UInt8), s26 = .int .i64 (j : Int) ∧ j ≤ N ∧ Hid (enc W wr e0 cl wl cd wd g v y) ∧ Hid (encPs (l.map Pz.pt) 0 = y ++ encPs ((l.drop j).map Pz.pt) (bl y)) ∧ Hid (R = ptsE (l.drop j)) ∧ Hid (bl y + ptsB (l.drop j) ≤ 281474976000000) ∧ Hid ((ptsT b (l.drop j)).1 = 0)) (fun s26 _ => N - (intOf s26).toNat)
    case atStart => exact ⟨0, _, [], [], rfl, Nat.zero_le _, E6, Lib.hid (by rw [List.drop_zero]; rfl), Lib.hid (by rw [List.drop_zero]; exact HT0.out.2.2), Lib.hid (by rw [List.drop_zero]; have := HB.out; simpa [bl] using this), Lib.hid (by rw [List.drop_zero]; exact HT0.out.1)⟩
    case round =>
      obtain ⟨j, v, y, b, rfl, hj, HE, HY, HRR, HBB, HTT⟩ := hrel
      by_cases hjn : j < N
      · have hjn' : (j : Int) < (N : Int) := by omega
        have hj0 : (0 : Int) ≤ (j : Int) := by omega
        obtain ⟨p, hpj⟩ : ∃ p, l[j]? = some p := ⟨_, List.getElem?_eq_getElem (by rw [← HN.out]; exact hjn)⟩
        have hdr := drop_cons hpj
        obtain ⟨bb, off, hA, hbb, hp⟩ := H.out j p hpj
        subst hA
        obtain ⟨Ao, co, eo, ro⟩ := hp.os
        obtain ⟨A1, q1, e1, r1, m1⟩ := hp.l1
        obtain ⟨A2, q2, e2, r2, m2⟩ := hp.l2
        have hk : ∀ i, wr.cell? ⟨bb, i, none⟩ = W.cell? ⟨bb, i, none⟩ := fun i => HE.out.b.cell (p := ⟨bb, i, none⟩) hbb
        have g0 := (hk _).trans hp.c0
        have g1 := (hk _).trans hp.c1
        have g2 := (hk _).trans eo
        have g3 := (hk _).trans e1
        have g4 := (hk _).trans e2
        have HT1 := HTT.out
        rw [hdr] at HT1
        have HT2 := okT_cons HT1
        have HTN := Lib.hid HT2.2
        obtain ⟨fin, hfin⟩ : ∃ fin : Bool, fin = ((l.drop (j + 1)).map Pz.pt).isEmpty := ⟨_, rfl⟩
        have hfb : ((j : Int) == (M : Int)) = fin := by
          rw [hfin]
          have h1 := HN.out
          have h2 := HMM.out
          by_cases hx : j = M
          · rw [List.drop_eq_nil_of_le (by omega)]
            simp; omega
          · have hne : l.drop (j + 1) ≠ [] := fun e => by
              have := congrArg List.length e
              rw [List.length_drop] at this
              simp at this; omega
            have e1 : ((l.drop (j + 1)).map Pz.pt).isEmpty = false := by
              cases hq : l.drop (j + 1)
              · exact absurd hq hne
              · rfl
            rw [e1]; simp; omega
        have HYS : Hid (encPs (l.map Pz.pt) 0 = (y ++ encP p.pt fin (bl y)) ++ encPs ((l.drop (j + 1)).map Pz.pt) (bl (y ++ encP p.pt fin (bl y)))) := Lib.hid (by
          rw [HY.out, hdr, List.map_cons, encPs_cons, ← hfin, List.append_assoc, bl_append])
        have HRS : Hid (R = if ptE p = 0 then ptsE (l.drop (j + 1)) else ptE p) := Lib.hid (by rw [HRR.out, hdr, ptsE_cons])
        have HBS : Hid (bl y + ptB p + ptsB (l.drop (j + 1)) ≤ 281474976000000) := Lib.hid (by have h1 := HBB.out; rw [hdr] at h1; simp only [ptsB] at h1; omega)
        obtain ⟨w7, hw7⟩ : ∃ w7, w7 = wr.alloc (.cells #[.int .i64 p.k, .string p.t, .slice Ao p.os.length co, .slice A1 p.n1 q1, .slice A2 p.n2 q2] 92) := ⟨_, rfl⟩
        have B7 : Hid (Below wr.heap.size wr w7) := Lib.hid (by rw [hw7]; exact below_alloc _ _)
        have HP := Lib.hid (part_any (fin := fin) (co := co) (c1 := q1) (c2 := q2) (HE.out.below B7.out) HO.out ro (row_rowS r1) (row_rowS r2) m1 m2 HT2.1 (by have := HBS.out; omega))
        have HJN := Lib.hid hjn
        have HOKB : Hid (ptE p = 0 → bl (encP p.pt fin (bl y)) ≤ ptB p) := Lib.hid (fun e => encP_bl (part_okP HT2.1 e).1 fin (bl y))
        obtain ⟨er, her⟩ : ∃ er, er = ptE p := ⟨_, rfl⟩
        rw [← her] at HRS HP HOKB
        have HRZ : Hid ((er = 0 → R = ptsE (l.drop (j + 1))) ∧ (er ≠ 0 → R = er)) := Lib.hid ⟨fun e => by rw [HRS.out, if_pos e], fun e => by rw [HRS.out, if_neg e]⟩
        obtain ⟨yn, hyn⟩ : ∃ yn, yn = y ++ encP p.pt fin (bl y) := ⟨_, rfl⟩
        rw [← hyn] at HYS HP
        have HYB : Hid (er = 0 → bl yn + ptsB (l.drop (j + 1)) ≤ 281474976000000) := Lib.hid (fun e => by
          have h1 := HOKB.out e
          have h2 := HBS.out
          rw [hyn, bl_append]; omega)
        obtain ⟨bn', hbn⟩ : ∃ bn', bn' = (ptT b p).2 := ⟨_, rfl⟩
        rw [← hbn] at HTN
        clear hp hk eo e1 e2 ro r1 r2 hpj hdr hbb HT1 HT2 HRR HBB HTT HY HRS HBS hfin her hyn hbn hjn HOKB
        obtain ⟨pk', pt, pos, pn1, pf1, pn2, pf2⟩ := p
        dsimp only at g0 g1 g2 g3 g4 HP hw7
        obtain ⟨No, hNo⟩ : ∃ No, No = pos.length := ⟨_, rfl⟩
        rw [← hNo] at g2 HP hw7
        clear hNo
        go_wp2_with fail
        rw [← hw7]
        clear hw7 g0 g1 g2 g3 g4
        refine HP.out.mono ?_
        rintro e w8 ⟨rfl, b8, h8⟩
        have B8 := Lib.hid b8
        have H8 := Lib.hid h8
        clear b8 h8
        by_cases hz : er = 0
        · have hzb : (er != 0) = false := by simp [hz]
          obtain ⟨v8, e8⟩ := H8.out hz
          have E8 := Lib.hid e8
          have HZ := Lib.hid hz
          clear hz e8
          go_wp2
          go_roundw
          case rel => exact ⟨j + 1, v8, yn, bn', by go_num, by have := HJN.out; omega, E8, HYS, Lib.hid (HRZ.out.1 HZ.out), Lib.hid (HYB.out HZ.out), HTN⟩
          case measure => have := HJN.out; simp [intOf]; omega
        · have hzb : (er != 0) = true := by simp [hz]
          have HZ := Lib.hid (HRZ.out.2 hz)
          have HZ2 := Lib.hid hz
          clear hz
          go_wp2
          go_ret2
          exact ⟨⟨#[]⟩, by rw [HZ.out]; rfl, ⟨fun _ => rfl, fun e => absurd ((HZ.out.symm.trans HR.out).trans e) HZ2.out⟩, B8.out⟩
      · have hjn' : ¬ (j : Int) < (N : Int) := by omega
        have hdn : l.drop j = [] := List.drop_eq_nil_of_le (by rw [← HN.out]; omega)
        have HR0 : Hid (R = 0) := Lib.hid (by rw [HRR.out, hdn]; rfl)
        have HY0 : Hid (encPs (l.map Pz.pt) 0 = y) := Lib.hid (by rw [HY.out, hdn]; exact List.append_nil y)
        have r0 : wr.cell? ⟨e0, 0, none⟩ = some (.pointer (some ⟨g, 0, none⟩)) := HE.out.e.cell 0
        obtain ⟨bs, t, hbs⟩ := HE.out.p.w.t
        have HTT2 := Lib.hid (Text_any (w := wr) t)
        have HBS := Lib.hid hbs
        have HTL := Lib.hid t.len
        clear hjn hdn t hbs
        go_wp2_with fail
        refine HTT2.out.mono ?_
        rintro e w' ⟨rfl, rfl⟩
        go_wp2
        go_ret2
        refine ⟨⟨bs.toArray⟩, by rw [HR0.out]; rfl, ⟨fun e => absurd (HR.out.symm.trans HR0.out) e, fun _ => ⟨?_, ?_⟩⟩, HE.out.b⟩
        · rw [HY0.out]; exact HBS.out
        · rw [HY0.out]; show Array.size _ = _; rw [List.size_toArray]; exact HTL.out
  · have hb0 : (te != 0) = true := by simp [h0]
    have HRT : Hid (R = te) := Lib.hid (by
      rw [HR.out]
      unfold encE
      rw [← HT.out, if_pos h0])
    have H0 := Lib.hid h0
    clear h0
    go_enter Tryz.func24, Tryz.ntmps24
    go_wp2_with fail
    refine HTX.out.mono ?_
    rintro e w1 ⟨rfl, b1⟩
    go_wp2
    go_ret2
    exact ⟨⟨#[]⟩, by rw [HRT.out]; rfl, ⟨fun _ => rfl, fun e => absurd ((HRT.out.symm.trans HR.out).trans e) H0.out⟩, b1⟩
end Go.Proofs.YtnkninjdpgpkmaaGreatDoor.Gz
namespace Go.Proofs.YtnkninjdpgpkmaaGreatDoor.Ht
open Go.RowKit Go.Proofs.YtnkninjdpgpkmaaGreatDoor.Vm Go.Proofs.YtnkninjdpgpkmaaGreatDoor.Vo Go.Proofs.YtnkninjdpgpkmaaGreatDoor.Bm Go.Proofs.YtnkninjdpgpkmaaGreatDoor.Bw Go.Proofs.YtnkninjdpgpkmaaGreatDoor.Na Go.Proofs.YtnkninjdpgpkmaaGreatDoor.Ke Go.Proofs.YtnkninjdpgpkmaaGreatDoor.Nm Go.Proofs.YtnkninjdpgpkmaaGreatDoor.Ky Go.Proofs.YtnkninjdpgpkmaaGreatDoor.Kw Go.Proofs.YtnkninjdpgpkmaaGreatDoor.Gm Go.Proofs.YtnkninjdpgpkmaaGreatDoor.Ga Go.Proofs.YtnkninjdpgpkmaaGreatDoor.Gr Go.Proofs.YtnkninjdpgpkmaaGreatDoor.Gp Go.Proofs.YtnkninjdpgpkmaaGreatDoor.Hm Go.Proofs.YtnkninjdpgpkmaaGreatDoor.Gt Go.Proofs.YtnkninjdpgpkmaaGreatDoor.Gz Go.Proofs.YtnkninjdpgpkmaaGreatDoor.Ho Go.Proofs.YtnkninjdpgpkmaaGreatDoor.Hp Go.Proofs.YtnkninjdpgpkmaaGreatDoor.Hs

/-- The one part. -/
def k1 : Pz := ⟨1, ⟨#[]⟩, [⟨97, 0, 0⟩], 0, fun _ => 0, 0, fun _ => 0⟩
theorem k1_text : textM [k1] = (0, [97]) := by decide +kernel
theorem k1_enc : encE [k1] = 0 := by decide +kernel
theorem k1_holds : holds ⟨#[75, 4, 0]⟩ (encPs ([k1].map Pz.pt) 0) := ⟨by decide +kernel, by decide +kernel⟩
theorem opx_eq {a b : Opx} (h1 : a.x = b.x) (h2 : a.n = b.n) (h3 : a.d = b.d) : a = b := by cases a; cases b; simp_all
theorem aaaa : opsM [97, 97, 97, 97] 0 = [⟨97, 0, 0⟩, ⟨0, 3, 1⟩] := by
  rw [opsM_at (by decide)]
  rw [show bo (([97, 97, 97, 97] : List UInt8).getD 0 0) (best [97, 97, 97, 97] 0 (min 256 0)) = ⟨97, 0, 0⟩ from opx_eq (by decide +kernel) (by decide +kernel) (by decide +kernel)]
  rw [show (0 + if (⟨97, 0, 0⟩ : Opx).n = 0 then 1 else (⟨97, 0, 0⟩ : Opx).n) = 1 by decide +kernel]
  rw [opsM_at (by decide)]
  rw [show bo (([97, 97, 97, 97] : List UInt8).getD 1 0) (best [97, 97, 97, 97] 1 (min 256 1)) = ⟨0, 3, 1⟩ from opx_eq (by decide +kernel) (by decide +kernel) (by decide +kernel)]
  rw [show (1 + if (⟨0, 3, 1⟩ : Opx).n = 0 then 1 else (⟨0, 3, 1⟩ : Opx).n) = 4 by decide +kernel]
  rw [opsM_end (by decide)]
/-- The part in memory. -/
theorem k1_ptr {w1 w2 : World} {g1 g2 : Nat} (h1 : Blk w1 g1 89 #[.int .u8 97, .int .i64 0, .int .i64 0]) (b2 : Below w1.heap.size w1 w2) (h2 : Blk w2 g2 92 #[.int .i64 1, .string ⟨#[]⟩, .slice (some ⟨g1, 0, none⟩) 1 1, .slice none 0 0, .slice none 0 0]) : ptr w2 (some ⟨g2, 0, none⟩) [k1] := by
  intro i p hi
  match i, hi with
  | 0, hi =>
    obtain rfl : k1 = p := by simpa using hi
    refine ⟨g2, 0, rfl, h2.lt, ?_⟩
    have k := h1.below b2
    refine ⟨⟨by decide, by decide⟩, h2.cell 0, h2.cell 1, ⟨_, _, h2.cell 2, fun i o ho => ?_⟩, ⟨none, 0, h2.cell 3, row_none _ _ _, by decide⟩, ⟨none, 0, h2.cell 4, row_none _ _ _, by decide⟩⟩
    match i, ho with
    | 0, ho =>
      obtain rfl : (⟨97, 0, 0⟩ : Opi) = o := by
        have : k1.os[0]? = some (⟨97, 0, 0⟩ : Opi) := rfl
        exact Option.some.inj (this.symm.trans ho)
      exact ⟨⟨by decide, by decide⟩, ⟨by decide, by decide⟩, g1, 0, rfl, k.lt, k.cell 0, k.cell 1, k.cell 2⟩
    | i + 1, ho => exact absurd ho (by simp [k1])
  | i + 1, hi => simp at hi

set_option maxHeartbeats 2000000 in
set_option maxRecDepth 100000 in
theorem known_any {w : World} (hO : ordM w) : Calls Tryz.prog 20 #[] w fun e w' => e = .returned (.bool true) ∧ Below w.heap.size w w' := by
  obtain ⟨w1, hw1⟩ : ∃ w1, w1 = w.alloc (.cells #[.int .u8 97, .int .i64 0, .int .i64 0] 89) := ⟨_, rfl⟩
  obtain ⟨w2, hw2⟩ : ∃ w2, w2 = w1.alloc (.cells #[.int .i64 1, .string ⟨#[]⟩, .slice (some ⟨w.heap.size, 0, none⟩) 1 1, .slice none 0 0, .slice none 0 0] 92) := ⟨_, rfl⟩
  have b1 : Below w.heap.size w w1 := by rw [hw1]; exact below_alloc _ _
  have b2 : Below w1.heap.size w1 w2 := by rw [hw2]; exact below_alloc _ _
  have k1' : Blk w1 w.heap.size 89 #[.int .u8 97, .int .i64 0, .int .i64 0] := by rw [hw1]; exact Blk.fresh _ _ _
  have k2' : Blk w2 w1.heap.size 92 #[.int .i64 1, .string ⟨#[]⟩, .slice (some ⟨w.heap.size, 0, none⟩) 1 1, .slice none 0 0, .slice none 0 0] := by rw [hw2]; exact Blk.fresh _ _ _
  have P2 := Lib.hid (k1_ptr k1' b2 k2')
  have B2 := Lib.hid (grows b1 b2)
  have HO := Lib.hid hO
  obtain ⟨g2, hg2⟩ : ∃ g2, g2 = w1.heap.size := ⟨_, rfl⟩
  have hg2' : g2 = w.heap.size + 1 := by rw [hg2, hw1, size_alloc]
  rw [← hg2] at P2
  have ho : ∀ p ∈ [k1], p.os.length ≤ 1000000 := by
    intro p hp
    simp at hp
    subst hp
    decide
  have HEN := Lib.hid (Encode_any (c := 1) P2.out (hO.below B2.out) (by decide +kernel) (by decide) ho (by decide +kernel))
  rw [k1_enc] at HEN
  have HTX := Lib.hid (fun u (hu : Below w2.heap.size w2 u) => Text_any (c := 1) (P2.out.below hu) (by decide +kernel) (by decide) ho)
  rw [k1_text] at HTX
  have HOP := Lib.hid (fun u => Ops_any (s := ⟨#[97, 97, 97, 97]⟩) (by decide) u)
  rw [show (⟨#[97, 97, 97, 97]⟩ : ByteArray).data.toList = [97, 97, 97, 97] from rfl, aaaa] at HOP
  have HTN := Lib.hid (fun u => Text_any (w := u) (A := none) (c := 0) (l := []) (fun i p h => by simp at h) (by decide) (by decide) (fun p hp => by cases hp))
  have HSP := Lib.hid (fun u => Split_any (s := ⟨#[]⟩) (z := 0) (by decide) u)
  clear b1 b2 k1' k2' hO hg2 ho
  go_enter Tryz.func20, Tryz.ntmps20
  go_wp2_with fail
  rw [← hw1]
  rw [← hw2]
  rw [← hg2']
  clear hw1 hw2 hg2'
  refine HEN.out.mono ?_
  rintro e w3 ⟨S, rfl, hS, b3⟩
  obtain rfl : S = ⟨#[75, 4, 0]⟩ := holds_inj (hS.2 k1_enc) k1_holds
  have B23 := Lib.hid b3
  clear hS b3
  go_wp2_with fail
  refine (HTX.out _ B23.out).mono ?_
  rintro e w4 ⟨rfl, b4⟩
  have B24 := Lib.hid (grows B23.out b4)
  clear b4
  go_wp2_with fail
  refine (HOP.out _).mono ?_
  rintro e w5 ⟨A, n, cap, rfl, o5, l5, b5⟩
  have B25 := Lib.hid (grows B24.out b5)
  obtain ⟨A', c', e5⟩ := o5.form
  obtain rfl : n = 2 := by injection e5
  have r5 := o5.read l5
  obtain ⟨_, _, g, off, rfl, hg, x0, x1, x2⟩ := r5 1 ⟨0, 3, 1⟩ rfl
  have R5 := Lib.hid (show Hid (g < w5.heap.size) from Lib.hid hg)
  have X0 := Lib.hid x0
  have X1 := Lib.hid x1
  have X2 := Lib.hid x2
  obtain rfl : off = 0 := by
    rcases o5.2 with ⟨h0, _⟩ | ⟨g', cap', cur, e1, _⟩
    · injection h0 with h0; cases h0
    · injection e1 with e1; injection e1 with e1; injection e1
  clear o5 l5 b5 r5 hg x0 x1 x2 e5
  go_wp2_with fail
  refine (HTN.out _).mono ?_
  rintro e w6 ⟨rfl, b6⟩
  have B26 := Lib.hid (grows B25.out b6)
  have x0 : w6.cell? ⟨g, 3, none⟩ = some (.int .u8 0) := (b6.cell (p := ⟨g, 3, none⟩) R5.out.out).trans (by have h := X0.out; rw [show 0 + 1 * 3 = 3 from rfl] at h; exact h)
  have x1 : w6.cell? ⟨g, 4, none⟩ = some (.int .i64 3) := (b6.cell (p := ⟨g, 4, none⟩) R5.out.out).trans (by have h := X1.out; rw [show 0 + 1 * 3 + 1 = 4 from rfl] at h; exact h)
  have x2 : w6.cell? ⟨g, 5, none⟩ = some (.int .i64 1) := (b6.cell (p := ⟨g, 5, none⟩) R5.out.out).trans (by have h := X2.out; rw [show 0 + 1 * 3 + 2 = 5 from rfl] at h; exact h)
  clear b6 X0 X1 X2 R5
  rw [show (⟨(textM []).2.toArray⟩ : ByteArray) = ⟨#[]⟩ from rfl, show (textM []).1 = 17 from rfl]
  go_wp2_with fail
  refine (HSP.out _).mono ?_
  rintro e w7 ⟨A7, c7, L, rfl, hL, _, b7⟩
  have hl : L.length = 1 := by
    have := congrArg List.length hL
    rw [List.length_map] at this
    rw [this]; decide +kernel
  have B27 := Lib.hid (grows B26.out b7)
  clear hL b7
  go_wp2
  go_ret
  exact ⟨rfl, grows B2.out B27.out⟩
end Go.Proofs.YtnkninjdpgpkmaaGreatDoor.Ht
