/-
  The reference's reader where there are enough bits and where not; its stored and row: what is read is what the numbers say.
  Conditions: a string of at most 2^48 bytes, a place within it; at most 1000 lengths; a code of nineteen lengths.
-/
import Derived.Test.YtgbdecnaamlekaaDoorQbe
import Derived.Test.YtgbdecnaamlekaaDoorQaz
import Derived.Test.YtgbdecnaamlekaaDoorQay
namespace Go.Proofs.YtgbdecnaamlekaaDoor.Me
open Go.RowKit Go.Proofs.YtgbdecnaamlekaaDoor.Vm Go.Proofs.YtgbdecnaamlekaaDoor.Vo Go.Proofs.YtgbdecnaamlekaaDoor.Bm Go.Proofs.YtgbdecnaamlekaaDoor.Bt Go.Proofs.YtgbdecnaamlekaaDoor.Bw Go.Proofs.YtgbdecnaamlekaaDoor.Bp Go.Proofs.YtgbdecnaamlekaaDoor.Bs Go.Proofs.YtgbdecnaamlekaaDoor.Bv Go.Proofs.YtgbdecnaamlekaaDoor.Bx Go.Proofs.YtgbdecnaamlekaaDoor.Na Go.Proofs.YtgbdecnaamlekaaDoor.Nf Go.Proofs.YtgbdecnaamlekaaDoor.Nm Go.Proofs.YtgbdecnaamlekaaDoor.Ni Go.Proofs.YtgbdecnaamlekaaDoor.Ne Go.Proofs.YtgbdecnaamlekaaDoor.Nh Go.Proofs.YtgbdecnaamlekaaDoor.Pm Go.Proofs.YtgbdecnaamlekaaDoor.Pw Go.Proofs.YtgbdecnaamlekaaDoor.Pi Go.Proofs.YtgbdecnaamlekaaDoor.Ko Go.Proofs.YtgbdecnaamlekaaDoor.Ka Go.Proofs.YtgbdecnaamlekaaDoor.Kb Go.Proofs.YtgbdecnaamlekaaDoor.Km Go.Proofs.YtgbdecnaamlekaaDoor.Kw Go.Proofs.YtgbdecnaamlekaaDoor.Ks Go.Proofs.YtgbdecnaamlekaaDoor.Kc Go.Proofs.YtgbdecnaamlekaaDoor.Kd Go.Proofs.YtgbdecnaamlekaaDoor.Ke Go.Proofs.YtgbdecnaamlekaaDoor.Ky Go.Proofs.YtgbdecnaamlekaaDoor.Kx Go.Proofs.YtgbdecnaamlekaaDoor.Ku Go.Proofs.YtgbdecnaamlekaaDoor.Kh Go.Proofs.YtgbdecnaamlekaaDoor.Be Go.Proofs.YtgbdecnaamlekaaDoor.Ki Go.Proofs.YtgbdecnaamlekaaDoor.Kl Go.Proofs.YtgbdecnaamlekaaDoor.Kn Go.Proofs.YtgbdecnaamlekaaDoor.Ma Go.Proofs.YtgbdecnaamlekaaDoor.Kp Go.Proofs.YtgbdecnaamlekaaDoor.Br Go.Proofs.YtgbdecnaamlekaaDoor.Bq Go.Proofs.YtgbdecnaamlekaaDoor.Pr

section
variable {w : World} {g : Nat} {s : ByteArray} {a : Nat}
theorem rBits_has {z : Int} {m : Nat} (hz : z = (m : Int)) (hm : m ≤ 32) (h : rr w g s a) (hs : s.size ≤ 281474976710656) (ha : a + m ≤ 8 * s.size) :
    Calls Tryd.prog 57 #[.pointer (some ⟨g, 0, none⟩), .int .i64 z] w fun e w' => e = .returned (.tuple #[.int .i64 (peekN (num s.data.toList) a m : Nat), .int .i64 0]) ∧ rr w' g s (a + m) ∧ Only (At g) w w' := by
  subst hz
  have hc := chk_has hm ha
  refine (rBits_any (m : Int) h hs (by omega)).mono ?_
  rintro e w' ⟨rfl, r1, o1⟩
  have e1 : bitsV s a (m : Int) = (peekN (num s.data.toList) a m : Nat) := by
    unfold bitsV peekR
    rw [if_pos hc, if_pos (by simp [cnt]; omega)]
    rfl
  have e2 : moved s a (m : Int) = a + m := by unfold moved; rw [if_pos hc]; rfl
  rw [e2] at r1
  exact ⟨by rw [e1, hc], r1, o1⟩
theorem rBits_short {z : Int} {m : Nat} (hz : z = (m : Int)) (hm : m ≤ 32) (h : rr w g s a) (hs : s.size ≤ 281474976710656) (ha : a ≤ 8 * s.size) (hl : 8 * s.size - a < m) :
    Calls Tryd.prog 57 #[.pointer (some ⟨g, 0, none⟩), .int .i64 z] w fun e w' => e = .returned (.tuple #[.int .i64 0, .int .i64 2]) ∧ rr w' g s a ∧ Only (At g) w w' := by
  subst hz
  have hc : chk s a (m : Int) = 2 := by
    unfold chk
    rw [if_pos (by simp [cnt]; omega), if_pos (by omega)]
  refine (rBits_any (m : Int) h hs ha).mono ?_
  rintro e w' ⟨rfl, r1, o1⟩
  have e1 : bitsV s a (m : Int) = 0 := by unfold bitsV; rw [if_neg (by rw [hc]; decide)]
  have e2 : moved s a (m : Int) = a := by unfold moved; rw [if_neg (by rw [hc]; decide)]
  rw [e2] at r1
  exact ⟨by rw [e1, hc], r1, o1⟩
theorem only_base {S : Nat → Prop} {w b c : World} (h : Only S w b) (k : Below w.heap.size b c) : Only S w c :=
  ⟨k.os.trans h.os, k.tape.trans h.tape, k.output.trans h.output, Nat.le_trans h.size k.size, fun i hi hS => (k.block i hi).trans (h.block i hi hS)⟩
theorem rr_base {b c : World} {g : Nat} {s : ByteArray} {a B : Nat} (h : rr b g s a) (k : Below B b c) (hg : g < B) : rr c g s a := (k.block g hg).trans h
theorem blk_base {b c : World} {g B : Nat} {t : TypeId} {cs : Array Value} (h : Blk b g t cs) (k : Below B b c) (hg : g < B) : Blk c g t cs := (k.block g hg).trans h
end

theorem ints_row' {w : World} {base : Nat} {A : Option Addr} {m c : Nat} {l : List Nat} (h : ints w base 3 (.slice A m c) (ofN l)) (hm : l.length = m) : row w A m (ix l) := by
  obtain ⟨A', c', e, r⟩ := ints_row h
  injection e with e _ _
  subst e
  rw [hm] at r
  exact r
/-- That it isn't the first symbol that repeats what is not there. -/
def nf (i : Nat) (l : List Nat) : Prop := ¬ (i = 16 ∧ l = [])
/-- The length of a slice. -/
def lenV : Value → Nat | .slice _ n _ => n | _ => 0

section
variable {w : World} {g gc : Nat} {s : ByteArray} {a n : Nat} {f : Nat → Int}
/-- What row answers. -/
def rrowP (g : Nat) (s : ByteArray) (C : List Nat) (n a : Nat) (w : World) (e : Ending) (w' : World) : Prop :=
  ∃ A m c, e = .returned (.tuple #[.slice A m c, .int .i64 (seqM C (num s.data.toList) (8 * s.size) n a []).1]) ∧
    ((seqM C (num s.data.toList) (8 * s.size) n a []).1 = 0 → ints w' w.heap.size 3 (.slice A m c) (ofN (seqM C (num s.data.toList) (8 * s.size) n a []).2.1) ∧ rr w' g s (seqM C (num s.data.toList) (8 * s.size) n a []).2.2) ∧ (∃ a', rr w' g s a') ∧ Only (At g) w w'

set_option maxHeartbeats 8000000 in
set_option maxRecDepth 100000 in
theorem rrow_any {z : Int} (hz : z = (n : Int)) (he : err 19 f = 0) (HC : Hid (Blk w gc 3 (arr 19 f))) (HQ : Hid (rr w g s a)) (hs : s.size ≤ 281474976710656) (ha : a ≤ 8 * s.size) (hn : n ≤ 1000) :
    Calls Tryd.prog 77 #[.pointer (some ⟨g, 0, none⟩), .slice (some ⟨gc, 0, none⟩) 19 19, .int .i64 z] w (rrowP g s (L 19 f) n a w) := by
  subst hz
  obtain ⟨_, h2, _⟩ := err_zero he
  have H15 := Lib.hid (L_le h2)
  have HCL : Hid ((L 19 f).length = 19) := Lib.hid (L_length 19 f)
  obtain ⟨C, hC⟩ : ∃ C, C = L 19 f := ⟨_, rfl⟩
  have HCC := Lib.hid hC
  rw [← hC] at H15 HCL ⊢
  obtain ⟨M, hM⟩ : ∃ M, M = 8 * s.size := ⟨_, rfl⟩
  have HM := Lib.hid hM
  obtain ⟨N, hN⟩ : ∃ N, N = num s.data.toList := ⟨_, rfl⟩
  have HN := Lib.hid hN
  unfold rrowP
  rw [← hM, ← hN]
  rw [← hM] at ha
  obtain ⟨R, hR⟩ : ∃ R, R = seqM C N M n a [] := ⟨_, rfl⟩
  have HR := Lib.hid hR
  rw [← hR]
  have hMb : M ≤ 2251799813685248 := by omega
  have HE := Lib.hid he
  have HS := Lib.hid hs
  have HGL : Hid (g < w.heap.size) := Lib.hid HQ.out.lt
  have HCLt : Hid (gc < w.heap.size) := Lib.hid HC.out.lt
  have HGC : Hid (gc ≠ g) := Lib.hid (Blk.apart HC.out HQ.out (by decide))
  have hinfo := info_parts infoI
  obtain ⟨i0, hi0, hz0, hz1, hz2⟩ := hinfo
  clear h2 hC hM hN hR he hs
  go_enter Tryd.func77, Tryd.ntmps77
  go_wp2_with fail
  go_loopw [8] (fun s8 wr => ∃ (l : List Nat) (A : Option Addr) (m c a' : Nat), s8 = .slice A m c ∧ m ≤ n ∧ a' ≤ M ∧ Hid (l.length = m) ∧ Hid (ints wr w.heap.size 3 (.slice A m c) (ofN l)) ∧ Hid (rr wr g s a') ∧ Hid (Blk wr gc 3 (arr 19 f)) ∧ Hid (R = seqM C N M n a' l) ∧ Hid (Only (At g) w wr)) (fun s8 _ => n - lenV s8)
  case atStart => exact ⟨[], none, 0, 0, a, rfl, by omega, ha, Lib.hid rfl, Lib.hid (ints_nil _ _ _), HQ, HC, HR, Lib.hid (Only.refl _ _)⟩
  case round =>
    obtain ⟨l, A, m, c, a', rfl, hm, ha', HL, HI, HQ', HC', HRE, OO⟩ := hrel
    clear HQ HC HR
    have HSZ : Hid (w.heap.size ≤ wr.heap.size) := Lib.hid OO.out.size
    by_cases hmn : m < n
    · have hmn' : (m : Int) < (n : Int) := by omega
      have hln : l.length < n := by rw [HL.out]; exact hmn
      have HLN := Lib.hid hln
      have HRd := Lib.hid (rRead_any (cap := 19) HE.out (Lib.hid (row_of_blk HC'.out)) HQ' HS.out (by rw [← HM.out]; exact ha'))
      rw [← HCC.out, ← HN.out, ← HM.out] at HRd
      clear hln
      rcases hgot : got C N a' (M - a') with _ | i
      · obtain ⟨er, her⟩ : ∃ er, er = gotE C N a' (M - a') := ⟨_, rfl⟩
        have hgs : gotS C N a' (M - a') = 0 := by unfold gotS; rw [hgot]
        have her0 : (er != 0) = true := by rw [her]; unfold gotE; rw [hgot]; simp only; split <;> rfl
        have HD : Hid (R = (er, [], 0)) := Lib.hid (by rw [HRE.out, seq_none HLN.out hgot, ← her])
        rw [← her, hgs] at HRd
        have hne : er ≠ 0 := by simpa using her0
        have HNE := Lib.hid hne
        clear her hgs hgot hne
        go_wp2_with fail
        refine HRd.out.mono ?_
        rintro e w3 ⟨rfl, r3, o3⟩
        have R3 := Lib.hid r3
        have O3 := Lib.hid (OO.out.trans o3)
        clear r3 o3
        go_wp2
        go_ret2
        exact ⟨none, 0, 0, by rw [HD.out]; rfl, fun e => (by rw [HD.out] at e; exact absurd e HNE.out), ⟨_, R3.out⟩, O3.out⟩
      · have hgs : gotS C N a' (M - a') = (i : Int) := by unfold gotS; rw [hgot]
        have hge : gotE C N a' (M - a') = 0 := by unfold gotE; rw [hgot]
        have hga : gotA C N a' (M - a') = a' + nth C i := by unfold gotA; rw [hgot]
        obtain ⟨hi19, hil⟩ := got_lt H15.out hgot
        rw [HCL.out] at hi19
        rw [hge, hgs, hga] at HRd
        obtain ⟨p, hp⟩ : ∃ p, p = a' + nth C i := ⟨_, rfl⟩
        have hpM : p ≤ M := by omega
        have HP := Lib.hid hp
        rw [← hp] at HRd
        have HGT := Lib.hid hgot
        clear hgs hge hga hgot hil hp
        by_cases hi16 : i < 16
        · have hi16' : (i : Int) < 16 := by omega
          have HD : Hid (R = seqM C N M n p (l ++ [i])) := Lib.hid (by rw [HRE.out, seq_low HLN.out HGT.out hi16, ← HP.out])
          go_wp2_with fail
          refine HRd.out.mono ?_
          rintro e w3 ⟨rfl, r3, o3⟩
          have R3 := Lib.hid r3
          have O3 := Lib.hid (OO.out.trans o3)
          have C3 := Lib.hid (HC'.out.only o3 HGC.out)
          have I3 : Hid (ints w3 w.heap.size 3 (.slice A m c) (ofN l)) := Lib.hid (HI.out.only o3 (fun i hi e => by
            have h1 := (HI.out.lo i hi).1
            have : i = g := e
            have := HGL.out
            omega))
          have S3 : Hid (w.heap.size ≤ w3.heap.size) := Lib.hid O3.out.size
          have I3' : Hid (w3.ownsRow w.heap.size 3 1 (.slice A m c) m (Is (ofN l))) := Lib.hid (by
            have h := I3.out
            unfold ints at h
            rw [ofN_length, HL.out] at h
            exact h)
          clear r3 o3 HRd HQ' HC' HI OO HSZ
          go_wp2_with (at_builtin; refine wpList_append_own_at _ rfl _ _ 31 rfl w.heap.size 3 i0 (.int .i64 0) 1 8 Tryd.underlying31 hi0 hz0 hz1 hz2 rfl (by decide) _ m (Is (ofN l)) rfl (I3'.out.alloc _) ⟨w3.heap.size, 0, none⟩ 1 1 [.int .i64 (i : Int)] rfl rfl (cell_one_new _ _ _) ?a2 ?a3 ?a4 ?a5 ?_)
          case a2 => intro q hq; simp at hq; subst hq; rfl
          case a3 => unfold maxLen; omega
          case a4 => omega
          case a5 => have := S3.out; rw [size_alloc]; omega
          intro v4 w4 h4 g4 _ _
          rw [show m = (ofN l).length by rw [ofN_length, HL.out]] at h4
          obtain ⟨k1, k2⟩ := ints_snoc (w := w3) (x := (i : Int)) S3.out (Below.refl _ _) I3.out h4 g4
          have K1 : Hid (ints w4 w.heap.size 3 v4 (ofN (l ++ [i]))) := Lib.hid (by rw [ofN_append]; exact k1)
          obtain ⟨A4, c4', hv4⟩ := K1.out.form
          rw [ofN_length, List.length_append, HL.out] at hv4
          have hv4' : v4 = .slice A4 (m + 1) c4' := hv4
          subst hv4'
          have R4 := Lib.hid (rr_base R3.out k2 HGL.out)
          have C4' := Lib.hid (blk_base C3.out k2 HCLt.out)
          have O4 := Lib.hid (only_base O3.out k2)
          clear h4 g4 k1 k2 hv4
          go_wp2
          go_roundw
          case rel => exact ⟨l ++ [i], A4, m + 1, c4', p, rfl, by omega, hpM, Lib.hid (by rw [List.length_append, HL.out]; rfl), K1, R4, C4', HD, O4⟩
          case measure => show n - (m + 1) < n - m; omega
        · have hi16' : ¬ (i : Int) < 16 := by omega
          rcases (show i = 16 ∨ i = 17 ∨ i = 18 by omega) with hi | hi | hi
          · subst hi
            by_cases hm0 : m = 0
            · have hl0 : l = [] := by
                rcases l with _ | ⟨x, t⟩
                · rfl
                · have := HL.out; simp at this; omega
              have HD : Hid (R = (4, [], 0)) := Lib.hid (by rw [HRE.out, seq_form HLN.out HGT.out rfl hl0])
              subst hm0
              clear hl0
              go_wp2_with fail
              refine HRd.out.mono ?_
              rintro e w3 ⟨rfl, r3, o3⟩
              have R3 := Lib.hid r3
              have O3 := Lib.hid (OO.out.trans o3)
              clear r3 o3
              go_wp2
              go_ret2
              exact ⟨none, 0, 0, by rw [HD.out]; rfl, fun e => (by rw [HD.out] at e; cases e), ⟨_, R3.out⟩, O3.out⟩
            · have hr' := ints_row' HI.out HL.out
              obtain ⟨b5, off5, hA5, hb5, hc5⟩ := hr' (m - 1) (by omega)
              subst hA5
              obtain ⟨x, hx⟩ : ∃ x, x = nth l (m - 1) := ⟨_, rfl⟩
              rw [show ix l (m - 1) = (x : Int) by rw [hx]; rfl] at hc5
              have HX : Hid (x = rv 16 l) := Lib.hid (by rw [hx]; unfold rv; rw [if_pos rfl, HL.out])
              have hb5g : b5 ≠ g := fun e => by
                have h1 := (HI.out.lo b5 rfl).1
                have := HGL.out
                omega
              have HB5 := Lib.hid hb5
              have HC5 := Lib.hid hc5
              have HB5G := Lib.hid hb5g
              have hm1 : (m : Int) - 1 = ((m - 1 : Nat) : Int) := by omega
              have hfm : Hid (nf 16 l) := Lib.hid (fun e => by have h := HL.out; rw [e.2] at h; exact hm0 h.symm)
              clear hx hr' hb5 hc5 hb5g
              have hm0' : ((m : Int) == 0) = false := by simp; omega
              have HXB : Hid (xb 16 = 2 ∧ rp 16 = 3) := Lib.hid (by decide)
              go_wp2_with fail
              refine HRd.out.mono ?_
              rintro e w3 ⟨rfl, r3, o3⟩
              have R3 := Lib.hid r3
              have O3 := Lib.hid (OO.out.trans o3)
              have C3 := Lib.hid (HC'.out.only o3 HGC.out)
              have I3 := Lib.hid (HI.out.only o3 (fun i hi e => by
                have h1 := (HI.out.lo i hi).1
                have : i = g := e
                have := HGL.out
                omega))
              have c5 : w3.cell? ⟨b5, off5 + (m - 1), none⟩ = some (.int .i64 (x : Int)) := by
                  have hb := o3.block b5 HB5.out HB5G.out
                  have := HC5.out
                  unfold World.cell? at this ⊢
                  simp only [hb]
                  exact this
              clear r3 o3 HRd HQ' HC' HI OO HSZ
              by_cases hsh : M - p < 2
              · have HD : Hid (R = (2, [], 0)) := Lib.hid (by rw [HRE.out, seq_short HLN.out HGT.out (by decide) hfm.out (by rw [← HP.out, HXB.out.1]; exact hsh)])
                go_wp2_with fail
                refine (rBits_short (m := 2) rfl (by omega) R3.out HS.out (by rw [← HM.out]; exact hpM) (by rw [← HM.out]; exact hsh)).mono ?_
                rintro e w4 ⟨rfl, r4, o4⟩
                have R4 := Lib.hid r4
                have O4 := Lib.hid (O3.out.trans o4)
                clear r4 o4
                go_wp2
                go_ret2
                exact ⟨none, 0, 0, by rw [HD.out]; rfl, fun e => (by rw [HD.out] at e; cases e), ⟨_, R4.out⟩, O4.out⟩
              · obtain ⟨y, hy⟩ : ∃ y, y = peekN N p 2 := ⟨_, rfl⟩
                have hy128 : y < 128 := by rw [hy]; exact Nat.lt_of_lt_of_le (peekN_lt _ _ _) (by decide)
                have HY := Lib.hid hy
                clear hy
                go_wp2_with fail
                refine (rBits_has (m := 2) rfl (by omega) R3.out HS.out (by rw [← HM.out]; omega)).mono ?_
                rintro e w4 ⟨rfl, r4, o4⟩
                rw [← HN.out, ← HY.out]
                have R4 := Lib.hid r4
                have O4 := Lib.hid (O3.out.trans o4)
                have C4' := Lib.hid (C3.out.only o4 HGC.out)
                have I4 := Lib.hid (I3.out.only o4 (fun i hi e => by
                  have h1 := (I3.out.lo i hi).1
                  have : i = g := e
                  have := HGL.out
                  omega))
                clear r4 o4 R3 C3 I3
                by_cases hbig : n < m + 3 + y
                · have HD : Hid (R = (3, [], 0)) := Lib.hid (by rw [HRE.out, seq_big HLN.out HGT.out (by decide) hfm.out (by rw [← HP.out, HXB.out.1]; exact hsh) (by rw [← HP.out, HXB.out.1, HXB.out.2, ← HY.out, HL.out]; exact hbig)])
                  have hbig' : (n : Int) < (m : Int) + 3 + (y : Int) := by omega
                  go_wp2
                  go_ret2
                  exact ⟨none, 0, 0, by rw [HD.out]; rfl, fun e => (by rw [HD.out] at e; cases e), ⟨_, R4.out⟩, O4.out⟩
                · have HD : Hid (R = seqM C N M n (p + 2) (l ++ List.replicate (3 + y) (x))) := Lib.hid (by
                    rw [HRE.out, seq_more HLN.out HGT.out (by decide) hfm.out (by rw [← HP.out, HXB.out.1]; exact hsh) (by rw [← HP.out, HXB.out.1, HXB.out.2, ← HY.out, HL.out]; exact hbig), ← HP.out, HXB.out.1, HXB.out.2, ← HY.out, ← HX.out])
                  have hbig' : ¬ (n : Int) < (m : Int) + 3 + (y : Int) := by omega
                  have R6 := Lib.hid (ints_row' I4.out HL.out)
                  have U6 : Hid (upto m (ix l) = ofN l) := Lib.hid (by
                    have h := upto_at (ofN l)
                    rw [ofN_length, HL.out] at h
                    refine Eq.trans ?_ h
                    unfold upto
                    refine List.map_congr_left (fun q _ => ?_)
                    rw [ofN_at])
                  go_wp2_with fail
                  refine (times_any (n := 3 + y) (x : Int) (by omega) U6.out (by omega) R6).mono ?_
                  rintro e w7 ⟨v7, rfl, k7, b7⟩
                  have K7 : Hid (ints w7 w.heap.size 3 v7 (ofN (l ++ List.replicate (3 + y) (x)))) := Lib.hid (by
                    rw [ofN_append, ofN_rep]
                    exact ints_lower k7 O4.out.size)
                  obtain ⟨A7, c7, hv7⟩ := K7.out.form
                  rw [ofN_length, List.length_append, List.length_replicate, HL.out] at hv7
                  subst hv7
                  have R7 := Lib.hid (R4.out.below b7)
                  have C7 := Lib.hid (C4'.out.below b7)
                  have O7 := Lib.hid (O4.out.trans (Only.of_below b7))
                  clear k7 b7
                  go_wp2
                  go_roundw
                  case rel => exact ⟨l ++ List.replicate (3 + y) (x), A7, m + (3 + y), c7, p + 2, rfl, by omega, by omega, Lib.hid (by rw [List.length_append, List.length_replicate, HL.out]), K7, R7, C7, HD, O7⟩
                  case measure => show n - (m + (3 + y)) < n - m; omega
          · subst hi
            have HX : Hid (0 = rv 17 l) := Lib.hid (by unfold rv; rw [if_neg (by decide)])
            have hfm : Hid (nf 17 l) := Lib.hid (fun e => absurd e.1 (by decide))
            have HXB : Hid (xb 17 = 3 ∧ rp 17 = 3) := Lib.hid (by decide)
            go_wp2_with fail
            refine HRd.out.mono ?_
            rintro e w3 ⟨rfl, r3, o3⟩
            have R3 := Lib.hid r3
            have O3 := Lib.hid (OO.out.trans o3)
            have C3 := Lib.hid (HC'.out.only o3 HGC.out)
            have I3 := Lib.hid (HI.out.only o3 (fun i hi e => by
              have h1 := (HI.out.lo i hi).1
              have : i = g := e
              have := HGL.out
              omega))
            clear r3 o3 HRd HQ' HC' HI OO HSZ
            by_cases hsh : M - p < 3
            · have HD : Hid (R = (2, [], 0)) := Lib.hid (by rw [HRE.out, seq_short HLN.out HGT.out (by decide) hfm.out (by rw [← HP.out, HXB.out.1]; exact hsh)])
              go_wp2_with fail
              refine (rBits_short (m := 3) rfl (by omega) R3.out HS.out (by rw [← HM.out]; exact hpM) (by rw [← HM.out]; exact hsh)).mono ?_
              rintro e w4 ⟨rfl, r4, o4⟩
              have R4 := Lib.hid r4
              have O4 := Lib.hid (O3.out.trans o4)
              clear r4 o4
              go_wp2
              go_ret2
              exact ⟨none, 0, 0, by rw [HD.out]; rfl, fun e => (by rw [HD.out] at e; cases e), ⟨_, R4.out⟩, O4.out⟩
            · obtain ⟨y, hy⟩ : ∃ y, y = peekN N p 3 := ⟨_, rfl⟩
              have hy128 : y < 128 := by rw [hy]; exact Nat.lt_of_lt_of_le (peekN_lt _ _ _) (by decide)
              have HY := Lib.hid hy
              clear hy
              go_wp2_with fail
              refine (rBits_has (m := 3) rfl (by omega) R3.out HS.out (by rw [← HM.out]; omega)).mono ?_
              rintro e w4 ⟨rfl, r4, o4⟩
              rw [← HN.out, ← HY.out]
              have R4 := Lib.hid r4
              have O4 := Lib.hid (O3.out.trans o4)
              have C4' := Lib.hid (C3.out.only o4 HGC.out)
              have I4 := Lib.hid (I3.out.only o4 (fun i hi e => by
                have h1 := (I3.out.lo i hi).1
                have : i = g := e
                have := HGL.out
                omega))
              clear r4 o4 R3 C3 I3
              by_cases hbig : n < m + 3 + y
              · have HD : Hid (R = (3, [], 0)) := Lib.hid (by rw [HRE.out, seq_big HLN.out HGT.out (by decide) hfm.out (by rw [← HP.out, HXB.out.1]; exact hsh) (by rw [← HP.out, HXB.out.1, HXB.out.2, ← HY.out, HL.out]; exact hbig)])
                have hbig' : (n : Int) < (m : Int) + 3 + (y : Int) := by omega
                go_wp2
                go_ret2
                exact ⟨none, 0, 0, by rw [HD.out]; rfl, fun e => (by rw [HD.out] at e; cases e), ⟨_, R4.out⟩, O4.out⟩
              · have HD : Hid (R = seqM C N M n (p + 3) (l ++ List.replicate (3 + y) (0))) := Lib.hid (by
                  rw [HRE.out, seq_more HLN.out HGT.out (by decide) hfm.out (by rw [← HP.out, HXB.out.1]; exact hsh) (by rw [← HP.out, HXB.out.1, HXB.out.2, ← HY.out, HL.out]; exact hbig), ← HP.out, HXB.out.1, HXB.out.2, ← HY.out, ← HX.out])
                have hbig' : ¬ (n : Int) < (m : Int) + 3 + (y : Int) := by omega
                have R6 := Lib.hid (ints_row' I4.out HL.out)
                have U6 : Hid (upto m (ix l) = ofN l) := Lib.hid (by
                  have h := upto_at (ofN l)
                  rw [ofN_length, HL.out] at h
                  refine Eq.trans ?_ h
                  unfold upto
                  refine List.map_congr_left (fun q _ => ?_)
                  rw [ofN_at])
                go_wp2_with fail
                refine (times_any (n := 3 + y) 0 (by omega) U6.out (by omega) R6).mono ?_
                rintro e w7 ⟨v7, rfl, k7, b7⟩
                have K7 : Hid (ints w7 w.heap.size 3 v7 (ofN (l ++ List.replicate (3 + y) (0)))) := Lib.hid (by
                  rw [ofN_append, ofN_rep]
                  exact ints_lower k7 O4.out.size)
                obtain ⟨A7, c7, hv7⟩ := K7.out.form
                rw [ofN_length, List.length_append, List.length_replicate, HL.out] at hv7
                subst hv7
                have R7 := Lib.hid (R4.out.below b7)
                have C7 := Lib.hid (C4'.out.below b7)
                have O7 := Lib.hid (O4.out.trans (Only.of_below b7))
                clear k7 b7
                go_wp2
                go_roundw
                case rel => exact ⟨l ++ List.replicate (3 + y) (0), A7, m + (3 + y), c7, p + 3, rfl, by omega, by omega, Lib.hid (by rw [List.length_append, List.length_replicate, HL.out]), K7, R7, C7, HD, O7⟩
                case measure => show n - (m + (3 + y)) < n - m; omega
          · subst hi
            have HX : Hid (0 = rv 18 l) := Lib.hid (by unfold rv; rw [if_neg (by decide)])
            have hfm : Hid (nf 18 l) := Lib.hid (fun e => absurd e.1 (by decide))
            have HXB : Hid (xb 18 = 7 ∧ rp 18 = 11) := Lib.hid (by decide)
            go_wp2_with fail
            refine HRd.out.mono ?_
            rintro e w3 ⟨rfl, r3, o3⟩
            have R3 := Lib.hid r3
            have O3 := Lib.hid (OO.out.trans o3)
            have C3 := Lib.hid (HC'.out.only o3 HGC.out)
            have I3 := Lib.hid (HI.out.only o3 (fun i hi e => by
              have h1 := (HI.out.lo i hi).1
              have : i = g := e
              have := HGL.out
              omega))
            clear r3 o3 HRd HQ' HC' HI OO HSZ
            by_cases hsh : M - p < 7
            · have HD : Hid (R = (2, [], 0)) := Lib.hid (by rw [HRE.out, seq_short HLN.out HGT.out (by decide) hfm.out (by rw [← HP.out, HXB.out.1]; exact hsh)])
              go_wp2_with fail
              refine (rBits_short (m := 7) rfl (by omega) R3.out HS.out (by rw [← HM.out]; exact hpM) (by rw [← HM.out]; exact hsh)).mono ?_
              rintro e w4 ⟨rfl, r4, o4⟩
              have R4 := Lib.hid r4
              have O4 := Lib.hid (O3.out.trans o4)
              clear r4 o4
              go_wp2
              go_ret2
              exact ⟨none, 0, 0, by rw [HD.out]; rfl, fun e => (by rw [HD.out] at e; cases e), ⟨_, R4.out⟩, O4.out⟩
            · obtain ⟨y, hy⟩ : ∃ y, y = peekN N p 7 := ⟨_, rfl⟩
              have hy128 : y < 128 := by rw [hy]; exact Nat.lt_of_lt_of_le (peekN_lt _ _ _) (by decide)
              have HY := Lib.hid hy
              clear hy
              go_wp2_with fail
              refine (rBits_has (m := 7) rfl (by omega) R3.out HS.out (by rw [← HM.out]; omega)).mono ?_
              rintro e w4 ⟨rfl, r4, o4⟩
              rw [← HN.out, ← HY.out]
              have R4 := Lib.hid r4
              have O4 := Lib.hid (O3.out.trans o4)
              have C4' := Lib.hid (C3.out.only o4 HGC.out)
              have I4 := Lib.hid (I3.out.only o4 (fun i hi e => by
                have h1 := (I3.out.lo i hi).1
                have : i = g := e
                have := HGL.out
                omega))
              clear r4 o4 R3 C3 I3
              by_cases hbig : n < m + 11 + y
              · have HD : Hid (R = (3, [], 0)) := Lib.hid (by rw [HRE.out, seq_big HLN.out HGT.out (by decide) hfm.out (by rw [← HP.out, HXB.out.1]; exact hsh) (by rw [← HP.out, HXB.out.1, HXB.out.2, ← HY.out, HL.out]; exact hbig)])
                have hbig' : (n : Int) < (m : Int) + 11 + (y : Int) := by omega
                go_wp2
                go_ret2
                exact ⟨none, 0, 0, by rw [HD.out]; rfl, fun e => (by rw [HD.out] at e; cases e), ⟨_, R4.out⟩, O4.out⟩
              · have HD : Hid (R = seqM C N M n (p + 7) (l ++ List.replicate (11 + y) (0))) := Lib.hid (by
                  rw [HRE.out, seq_more HLN.out HGT.out (by decide) hfm.out (by rw [← HP.out, HXB.out.1]; exact hsh) (by rw [← HP.out, HXB.out.1, HXB.out.2, ← HY.out, HL.out]; exact hbig), ← HP.out, HXB.out.1, HXB.out.2, ← HY.out, ← HX.out])
                have hbig' : ¬ (n : Int) < (m : Int) + 11 + (y : Int) := by omega
                have R6 := Lib.hid (ints_row' I4.out HL.out)
                have U6 : Hid (upto m (ix l) = ofN l) := Lib.hid (by
                  have h := upto_at (ofN l)
                  rw [ofN_length, HL.out] at h
                  refine Eq.trans ?_ h
                  unfold upto
                  refine List.map_congr_left (fun q _ => ?_)
                  rw [ofN_at])
                go_wp2_with fail
                refine (times_any (n := 11 + y) 0 (by omega) U6.out (by omega) R6).mono ?_
                rintro e w7 ⟨v7, rfl, k7, b7⟩
                have K7 : Hid (ints w7 w.heap.size 3 v7 (ofN (l ++ List.replicate (11 + y) (0)))) := Lib.hid (by
                  rw [ofN_append, ofN_rep]
                  exact ints_lower k7 O4.out.size)
                obtain ⟨A7, c7, hv7⟩ := K7.out.form
                rw [ofN_length, List.length_append, List.length_replicate, HL.out] at hv7
                subst hv7
                have R7 := Lib.hid (R4.out.below b7)
                have C7 := Lib.hid (C4'.out.below b7)
                have O7 := Lib.hid (O4.out.trans (Only.of_below b7))
                clear k7 b7
                go_wp2
                go_roundw
                case rel => exact ⟨l ++ List.replicate (11 + y) (0), A7, m + (11 + y), c7, p + 7, rfl, by omega, by omega, Lib.hid (by rw [List.length_append, List.length_replicate, HL.out]), K7, R7, C7, HD, O7⟩
                case measure => show n - (m + (11 + y)) < n - m; omega
    · have hmn' : ¬ (m : Int) < (n : Int) := by omega
      have HD : Hid (R = (0, l, a')) := Lib.hid (by rw [HRE.out, seq_done (by have := HL.out; omega)])
      go_wp2
      go_ret2
      exact ⟨A, m, c, by rw [HD.out]; rfl, fun _ => (by rw [HD.out]; exact ⟨HI.out, HQ'.out⟩), ⟨_, HQ'.out⟩, OO.out⟩
end
end Go.Proofs.YtgbdecnaamlekaaDoor.Me
