/-
  BlockWrites: any head is written, wherever the writer stands, as the reference says, or refused, and then nothing is written.
  Conditions: none.
  The walk of the call.
-/
import Derived.Test.YtgbdecnaamlekaaDoorQbe
import Derived.Test.YtgbdecnaamlekaaDoorQaz
import Derived.Test.YtgbdecnaamlekaaDoorQay
import Derived.Test.YtgbdecnaamlekaaDoorQal
import Derived.Deep.RegionHeld3
namespace Go.Proofs.YtgbdecnaamlekaaDoor.blockWrites
open Go.RowKit Go.Proofs.YtgbdecnaamlekaaDoor.Vm Go.Proofs.YtgbdecnaamlekaaDoor.Vo Go.Proofs.YtgbdecnaamlekaaDoor.Bm Go.Proofs.YtgbdecnaamlekaaDoor.Bt Go.Proofs.YtgbdecnaamlekaaDoor.Bw Go.Proofs.YtgbdecnaamlekaaDoor.Bp Go.Proofs.YtgbdecnaamlekaaDoor.Bs Go.Proofs.YtgbdecnaamlekaaDoor.Bv Go.Proofs.YtgbdecnaamlekaaDoor.Bx Go.Proofs.YtgbdecnaamlekaaDoor.Na Go.Proofs.YtgbdecnaamlekaaDoor.Nf Go.Proofs.YtgbdecnaamlekaaDoor.Nm Go.Proofs.YtgbdecnaamlekaaDoor.Ni Go.Proofs.YtgbdecnaamlekaaDoor.Ne Go.Proofs.YtgbdecnaamlekaaDoor.Nh Go.Proofs.YtgbdecnaamlekaaDoor.Pm Go.Proofs.YtgbdecnaamlekaaDoor.Pw Go.Proofs.YtgbdecnaamlekaaDoor.Pi Go.Proofs.YtgbdecnaamlekaaDoor.Ko Go.Proofs.YtgbdecnaamlekaaDoor.Ka Go.Proofs.YtgbdecnaamlekaaDoor.Kb Go.Proofs.YtgbdecnaamlekaaDoor.Km Go.Proofs.YtgbdecnaamlekaaDoor.Kw Go.Proofs.YtgbdecnaamlekaaDoor.Ks Go.Proofs.YtgbdecnaamlekaaDoor.Kc Go.Proofs.YtgbdecnaamlekaaDoor.Kd Go.Proofs.YtgbdecnaamlekaaDoor.Ke Go.Proofs.YtgbdecnaamlekaaDoor.Ky Go.Proofs.YtgbdecnaamlekaaDoor.Kx Go.Proofs.YtgbdecnaamlekaaDoor.Ku Go.Proofs.YtgbdecnaamlekaaDoor.Kh Go.Proofs.YtgbdecnaamlekaaDoor.Be Go.Proofs.YtgbdecnaamlekaaDoor.Ki Go.Proofs.YtgbdecnaamlekaaDoor.Kl Go.Proofs.YtgbdecnaamlekaaDoor.Kn Go.Proofs.YtgbdecnaamlekaaDoor.Ma Go.Proofs.YtgbdecnaamlekaaDoor.Mb Go.Proofs.YtgbdecnaamlekaaDoor.Mc Go.Proofs.YtgbdecnaamlekaaDoor.Md Go.Proofs.YtgbdecnaamlekaaDoor.Kp Go.Proofs.YtgbdecnaamlekaaDoor.Kk Go.Proofs.YtgbdecnaamlekaaDoor.Bf Go.Proofs.YtgbdecnaamlekaaDoor.Px

theorem rnil (w : World) (base : Nat) : rw' base (w.alloc (.cells #[.slice none 0 0] 51)) w.heap.size (.slice none 0 0) [] :=
  ⟨Blk.fresh _ _ _, World.ownsRow_nil _ _ _ _, by simp⟩
/-- The program's writer has gone on: both still lie apart. -/
theorem both_prog {W U w : World} {g h : Nat} {v vb v2 : Value} {l bs : List UInt8} {N z : Nat} {o : List (Nat × Nat)} (K : mid W U g h v vb l bs z) (G : gone W.heap.size U g v N z w v2 o) : ∃ l2, mid W w g h v2 vb l2 bs (z + bl o) ∧ num l2 = N + bn o * 2 ^ z := by
  obtain ⟨l2, t, e⟩ := G.t
  exact ⟨l2, K.prog G.o t G.a, e⟩
theorem both_ref {W U w : World} {g h : Nat} {v vb vb2 : Value} {l bs : List UInt8} {N z zz : Nat} {o : List (Nat × Nat)} (K : mid W U g h v vb l bs zz) (G : rgone W.heap.size U h vb N z w vb2 o) : ∃ bs2, mid W w g h v vb2 l bs2 zz ∧ bs2.length = z + bl o ∧ bitN bs2 = N + bn o * 2 ^ z := by
  obtain ⟨bs2, t, e1, e2⟩ := G.t
  exact ⟨bs2, K.ref G.o t G.a, e1, e2⟩
theorem outM_le {h : Hd} (ok : okH h) (n : Nat) : bl (outM h n) ≤ 1400 := by
  have hk := ok.k
  unfold outM
  rw [bl_append]
  rcases (show h.kind = 0 ∨ h.kind = 1 ∨ h.kind = 2 by omega) with h0 | h0 | h0
  · rw [if_pos h0]
    have : padZ (n + 3) ≤ 8 := by unfold padZ; omega
    simp only [bl]; omega
  · rw [if_neg (by omega), if_pos h0]
    simp only [bl]; omega
  · rw [if_neg (by omega), if_neg (by omega), outD_bl]
    have := ok.l h0
    simp only [bl]; omega
theorem wrO_le (b : Bool) (k z : Int) (n1 : Nat) (f1 : Nat → Int) (n2 : Nat) (f2 : Nat → Int) (n : Nat) : bl (wrO b k z n1 f1 n2 f2 n) ≤ 1400 := by
  unfold wrO
  by_cases h : wrM k z n1 f1 n2 f2 = 0
  · rw [if_pos h]; exact outM_le (wr_ok b h).1 n
  · rw [if_neg h]; simp [bl]

set_option maxHeartbeats 8000000 in
set_option maxRecDepth 100000 in
theorem walk (b : Bool) (k z : Int) (A1 : Option Addr) (n1 c1 : Nat) (f1 : Nat → Int) (A2 : Option Addr) (n2 c2 : Nat) (f2 : Nat → Int) (a : Int) (w : World) (_wk : (Lit.int .i64 k).wf = true) (_wz : (Lit.int .i64 z).wf = true)
    (l1 : n1 ≤ 9223372036854775807) (r1 : row w A1 n1 f1) (l2 : n2 ≤ 9223372036854775807) (r2 : row w A2 n2 f2) (wa : (Lit.int .u8 a).wf = true) (hO : ordM w) :
    Calls Tryd.prog 4 #[.agg #[.bool b, .int .i64 k, .int .i64 z, .slice A1 n1 c1, .slice A2 n2 c2], .int .u8 a] w fun e w' => e = .returned (.bool true) ∧ Below w.heap.size w w' := by
  clear _wk _wz
  have ha : 0 ≤ a ∧ a ≤ 255 := by simpa [Lit.wf, IntKind.min, IntKind.max, IntKind.signed, IntKind.bits] using wa
  obtain ⟨an, han⟩ := Int.eq_ofNat_of_zero_le ha.1
  subst han
  have ha5 : an ≤ 255 := by omega
  clear wa ha
  have HL := fun u => Lib.hid (light_any b k z A1 n1 c1 A2 n2 c2 u)
  obtain ⟨w1, hw1⟩ : ∃ w1, w1 = w.alloc (.cells #[.bool b, .int .i64 k, .int .i64 z, .slice A1 n1 c1, .slice A2 n2 c2] 36) := ⟨_, rfl⟩
  have b1 : Below w.heap.size w w1 := by rw [hw1]; exact below_alloc _ _
  have HB1 := Lib.hid b1
  have HX1 : Hid (Blk w1 w.heap.size 36 #[.bool b, .int .i64 k, .int .i64 z, .slice A1 n1 c1, .slice A2 n2 c2]) := Lib.hid (by rw [hw1]; exact Blk.fresh _ _ _)
  have HR := Lib.hid (And.intro (r1.below b1) (And.intro (r2.below b1) (hO.below b1)))
  clear r1 r2 hO b1
  by_cases hlt : n1 ≤ 400 ∧ n2 ≤ 400
  · have hd : decide (n1 ≤ 400 ∧ n2 ≤ 400) = true := by simpa using hlt
    rw [hd] at HL
    clear hlt hd
    obtain ⟨n, hn⟩ : ∃ n, n = an % 9 := ⟨_, rfl⟩
    have hn9 : n < 9 := by omega
    have en : ((an : Int) % 9) = (n : Int) := by omega
    clear hn
    go_enter Tryd.func4, Tryd.ntmps4
    go_wp2_with fail
    rw [← hw1]
    clear hw1
    refine (HL w1).out.mono ?_
    rintro e w2 ⟨rfl, b2⟩
    have B2 := Lib.hid b2
    clear b2 HL
    go_wp2_with fail
    refine (Open_any w2).mono ?_
    rintro e w3 ⟨g, rfl, t3, hg, b3⟩
    have ba := below_alloc w3 (.cells #[.slice none 0 0] 51)
    have hs3 : w2.heap.size ≤ w3.heap.size := b3.size
    have hgl : g < w3.heap.size := Blk.lt t3.b
    have K4 : Hid (mid w2 (w3.alloc (.cells #[.slice none 0 0] 51)) g w3.heap.size (.slice none 0 0) (.slice none 0 0) [] [] 0) := Lib.hid ⟨wt_below t3 ba, rnil w3 _, fun i h _ => by simp [Value.ownBlock] at h, by omega, hs3, grows b3 ba⟩
    clear t3 hg b3 ba hs3 hgl
    go_wp2_with fail
    obtain ⟨w4, hw4⟩ : ∃ w4, w4 = w3.alloc (.cells #[.slice none 0 0] 51) := ⟨_, rfl⟩
    rw [← hw4] at K4 ⊢
    obtain ⟨h, hh⟩ : ∃ h, h = w3.heap.size := ⟨_, rfl⟩
    rw [← hh] at K4
    clear hw4
    rw [en, ← hh]
    clear hh
    refine ((gone.start K4.out.t K4.out.b.size).put (y := 0) (m := n) rfl rfl (Nat.two_pow_pos n) (by omega) (by simp [bl])).mono ?_
    rintro e w5 ⟨rfl, v5, g5⟩
    obtain ⟨l5, k5, e5⟩ := both_prog K4.out g5
    have e5' : num l5 = 0 := by rw [e5]; simp [num, bn]
    rw [show 0 + bl ([] ++ [(0, n)]) = n by simp [bl]] at k5
    have K5 := Lib.hid k5
    have E5 := Lib.hid e5'
    clear g5 e5 e5' k5 K4
    go_wp2_with fail
    refine ((rgone.start K5.out.r K5.out.b.size).put (y := 0) (m := n) rfl rfl (Nat.two_pow_pos n) (by omega) (by simp [bl])).mono ?_
    rintro e w6 ⟨rfl, v6, g6⟩
    obtain ⟨bs6, k6, h6, e6⟩ := both_ref K5.out g6
    have e6' : bitN bs6 = 0 := by rw [e6]; simp [bitN, bn]
    have h6' : bs6.length = n := by rw [h6]; simp [bl]
    have K6 := Lib.hid k6
    have E6 := Lib.hid e6'
    have H6 := Lib.hid h6'
    clear g6 e6 e6' h6 h6' k6 K5
    have X6 := Lib.hid (HX1.out.below (grows B2.out K6.out.b))
    go_wp2_with (refine wpList_load_row rfl 36 _ rfl w.heap.size rfl _ _ _ _ X6.out Tryd.underlying36 rfl sizeR ?_)
    refine (given_any b k z A1 n1 c1 A2 n2 c2 w6).mono ?_
    rintro e w7 ⟨rfl, b7⟩
    have K7 := Lib.hid (K6.out.below b7)
    have HO7 : Hid (∀ i, own g v5 i → w2.heap.size ≤ i) := Lib.hid (fun i hi => by
      rcases hi with e | e
      · rw [e]; exact K6.out.g
      · exact (K6.out.t.o.lt i e).1)
    have HR7 : Hid (∀ x, Only (own g v5) w7 x → row x A1 n1 f1 ∧ row x A2 n2 f2 ∧ ordM x) := Lib.hid (fun x o => by
      have hb := grows B2.out (past K7.out.b HO7.out o)
      exact ⟨HR.out.1.below hb, HR.out.2.1.below hb, HR.out.2.2.below hb⟩)
    have HWp := Lib.hid (Write_any (b := b) (k := k) (z := z) (c1 := c1) (c2 := c2) (Lib.hid K7.out.t) K7.out.b.size (by omega) l1 l2 HR7)
    clear b7 X6 K6 HR7 HO7
    go_wp2_with fail
    refine HWp.out.mono ?_
    rintro e w8 ⟨rfl, v8, g8⟩
    obtain ⟨l8, k8, e8⟩ := both_prog K7.out g8
    rw [E5.out, Nat.zero_add] at e8
    have K8 := Lib.hid k8
    have E8 := Lib.hid e8
    clear g8 e8 k8 K7 HWp
    have X8 := Lib.hid (HX1.out.below (grows B2.out K8.out.b))
    have HO8 : Hid (∀ i, own h v6 i → w2.heap.size ≤ i) := Lib.hid (fun i hi => by
      rcases hi with e | e
      · rw [e]; exact K8.out.h
      · exact (K8.out.r.o.lt i e).1)
    have HR8 : Hid (∀ x, Only (own h v6) w8 x → row x A1 n1 f1 ∧ row x A2 n2 f2) := Lib.hid (fun x o => by
      have hb := grows B2.out (past K8.out.b HO8.out o)
      exact ⟨HR.out.1.below hb, HR.out.2.1.below hb⟩)
    have HWr := Lib.hid (rWrite_any (b := b) (k := k) (z := z) (c1 := c1) (c2 := c2) (Lib.hid K8.out.r) H6.out K8.out.b.size (by omega) HR8)
    go_wp2_with (refine wpList_load_row rfl 36 _ rfl w.heap.size rfl _ _ _ _ X8.out Tryd.underlying36 rfl sizeR ?_)
    refine HWr.out.mono ?_
    rintro e V ⟨rfl, v9, g9⟩
    obtain ⟨bs9, k9, h9, e9⟩ := both_ref K8.out g9
    rw [E6.out, Nat.zero_add] at e9
    have hle := wrO_le b k z n1 f1 n2 f2 n
    obtain ⟨out, hout⟩ : ∃ out, out = wrO b k z n1 f1 n2 f2 n := ⟨_, rfl⟩
    rw [← hout] at h9 e9 hle k9 E8
    obtain ⟨Z, hZ⟩ : ∃ Z, Z = n + bl out := ⟨_, rfl⟩
    rw [← hZ] at k9 h9
    have K : Hid (both w2 V g h v8 v9 l8 bs9 Z) := Lib.hid (both.of k9 h9 (by rw [e9, E8.out]))
    have hZb : Z ≤ 2000 := by omega
    obtain ⟨er, her⟩ : ∃ er, er = wrM k z n1 f1 n2 f2 := ⟨_, rfl⟩
    rw [← her]
    clear g9 h9 e9 hle hout hZ k9 E8 E6 E5 H6 HWr HR8 HO8 X8 K8 her
    obtain ⟨A, cap, hv9⟩ := K.out.row
    subst hv9
    have c9 : V.cell? ⟨h, 0, none⟩ = some (.slice A Z cap) := K.out.r.b.c0
    have hhl : h < V.heap.size := Blk.lt K.out.r.b
    have HLen : Hid (∀ u, Below V.heap.size V u → Calls Tryd.prog 24 #[.pointer (some ⟨g, 0, none⟩)] u fun e w' => e = .returned (.int .i64 (Z : Int)) ∧ u = w') := Lib.hid (fun u hu => Len_any (K.out.below hu).t.b)
    have HTxt : Hid (∀ u, Below V.heap.size V u → Calls Tryd.prog 25 #[.pointer (some ⟨g, 0, none⟩)] u fun e w' => e = .returned (.string ⟨l8.toArray⟩) ∧ u = w') := Lib.hid (fun u hu => Text_any (K.out.below hu).t)
    have HRTx : Hid (∀ u, Below V.heap.size V u → Calls Tryd.prog 26 #[.pointer (some ⟨h, 0, none⟩)] u fun e w' => e = .returned (.string ⟨l8.toArray⟩) ∧ Below u.heap.size u w') := Lib.hid (fun u hu => text_ref (K.out.below hu) (by omega))
    have BV : Hid (Below w.heap.size w V) := Lib.hid (grows HB1.out (grows B2.out K.out.b))
    have keeps : ∀ u u' : World, (u.cell? ⟨h, 0, none⟩ = some (.slice A Z cap) ∧ Below V.heap.size V u) → Below u.heap.size u u' → (u'.cell? ⟨h, 0, none⟩ = some (.slice A Z cap) ∧ Below V.heap.size V u') := fun u u' hc hb => by
      have hs := hc.2.size
      exact ⟨(hb.cell (p := ⟨h, 0, none⟩) (by show h < _; omega)).trans hc.1, grows hc.2 hb⟩
    obtain ⟨T, hT⟩ : ∃ T : ByteArray, T = ⟨l8.toArray⟩ := ⟨_, rfl⟩
    rw [← hT] at HTxt HRTx
    clear hT K hhl l1 l2
    go_wp2_with fail
    go_region_held3 (fun u => u.cell? ⟨h, 0, none⟩ = some (.slice A Z cap) ∧ Below V.heap.size V u)
      (first | exact ⟨c9, below_drew (Below.refl _ _)⟩ | assumption | (apply keeps; assumption; assumption))
      (first | (go_at_call 24; refine (HLen.out _ (show _ ∧ Below _ V _ by assumption).2).mono ?_; rintro e u1 ⟨rfl, rfl⟩) | (go_at_call 25; refine (HTxt.out _ (show _ ∧ Below _ V _ by assumption).2).mono ?_; rintro e u1 ⟨rfl, rfl⟩) | (go_at_call 26; refine (HRTx.out _ (show _ ∧ Below _ V _ by assumption).2).mono ?_; rintro e u1 ⟨rfl, hu1⟩) | (go_at_call 27; refine (FixedLits_any _).mono ?_; rintro e u2 ⟨v2, rfl, k2, hu2⟩; obtain ⟨Y1, e1, hv2, r2⟩ := ints_row k2; rw [fixL_length] at hv2 r2; subst hv2) | (go_at_call 28; refine (FixedDists_any _).mono ?_; rintro e u3 ⟨v3, rfl, k3, hu3⟩; obtain ⟨Y2, e2, hv3, r3⟩ := ints_row k3; rw [fixD_length] at hv3 r3; subst hv3) | (go_at_call 29; refine (rFixedLits_any _).mono ?_; rintro e u4 ⟨v4, rfl, k4, hu4⟩; obtain ⟨Y3, e3, hv4, r4⟩ := ints_row k4; rw [fixL_length] at hv4 r4; subst hv4) | (go_at_call 30; refine (rFixedDists_any _).mono ?_; rintro e u5 ⟨v5', rfl, k5, hu5⟩; obtain ⟨Y4, e4, hv5, r5⟩ := ints_row k5; rw [fixD_length] at hv5 r5; subst hv5) | (go_at_call 14; refine (Same_any (n := 288) (m := 32) (by omega) (by omega) (Lib.hid (((r2.below hu3).below hu4).below hu5)) (Lib.hid ((r3.below hu4).below hu5)) (Lib.hid (r4.below hu5)) (Lib.hid r5)).mono ?_; rintro e u6 ⟨rfl, hu6⟩) | (go_at_call 8; refine (known_any _).mono ?_; rintro e u7 ⟨rfl, hu7⟩))
    have hB := (show _ ∧ Below _ V _ by assumption).2
    go_wp2
    go_ret
    exact ⟨rfl, grows BV.out hB⟩
  · have hd : decide (n1 ≤ 400 ∧ n2 ≤ 400) = false := by simpa using hlt
    rw [hd] at HL
    clear hlt hd
    go_enter Tryd.func4, Tryd.ntmps4
    go_wp2_with fail
    rw [← hw1]
    refine (HL w1).out.mono ?_
    rintro e w2 ⟨rfl, b2⟩
    have B2 := Lib.hid b2
    clear b2
    go_wp2_with fail
    refine (known_any w2).mono ?_
    rintro e w3 ⟨rfl, b3⟩
    have B3 := Lib.hid b3
    clear b3
    go_wp2
    go_ret
    exact ⟨rfl, grows (grows HB1.out B2.out) B3.out⟩
end Go.Proofs.YtgbdecnaamlekaaDoor.blockWrites
