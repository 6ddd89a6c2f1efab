/-
  collimatorlaw07.WindowPlays returns true for every string and every script: whatever is put, copied and cleared, answers and what is held are the document's.
  Conditions: none.
-/
import Derived.Test.YtoniejpbgidmfaaWh
import Derived.Test.YtoniejpbgidmfaaWy
import Derived.Test.YtoniejpbgidmfaaLw
import Derived.Test.YtoniejpbgidmfaaCc
import Derived.Deep.RegionHeld3
namespace Go.Proofs.Ytoniejpbgidmfaa.windowPlays
open Go.ChangeShapes Go.WideShapes Go.ChangeAt Go.RowKit
open Go.ChangeMaps (open_string shut_string)
open Go.Proofs.Ytoniejpbgidmfaa.Lw Go.Proofs.Ytoniejpbgidmfaa.Vm Go.Proofs.Ytoniejpbgidmfaa.Vo Go.Proofs.Ytoniejpbgidmfaa.Bw Go.Proofs.Ytoniejpbgidmfaa.Wr Go.Proofs.Ytoniejpbgidmfaa.Wc Go.Proofs.Ytoniejpbgidmfaa.Ww Go.Proofs.Ytoniejpbgidmfaa.Wx Go.Proofs.Ytoniejpbgidmfaa.Wd Go.Proofs.Ytoniejpbgidmfaa.We Go.Proofs.Ytoniejpbgidmfaa.Wf Go.Proofs.Ytoniejpbgidmfaa.Wk Go.Proofs.Ytoniejpbgidmfaa.Wh Go.Proofs.Ytoniejpbgidmfaa.Wg Go.Proofs.Ytoniejpbgidmfaa.Wy Go.Proofs.Ytoniejpbgidmfaa.Cc

theorem own : ownKnob Try.prog.godebug = none := by kernel_rfl
theorem laidOut : laidOutB Try.prog = true := by kernel_rfl

/-- The script's cells. -/
def cellsOf (w : World) (A : Option Addr) (len : Nat) : Prop := ∀ i, i < len → ∃ (b off : Nat) (x d n : Int) (s : ByteArray), A = some ⟨b, off, none⟩ ∧ b < w.heap.size ∧ w.cell? ⟨b, off + i * 4, none⟩ = some (.int .i64 x) ∧ w.cell? ⟨b, off + i * 4 + 1, none⟩ = some (.string s) ∧ w.cell? ⟨b, off + i * 4 + 2, none⟩ = some (.int .i64 d)
  ∧ w.cell? ⟨b, off + i * 4 + 3, none⟩ = some (.int .i64 n) ∧ -9223372036854775808 ≤ n ∧ n ≤ 9223372036854775807
theorem rkeep {a b : World} {r : Nat} {S : Value} (hb : Below a.heap.size a b) (h : a.cell? ⟨r, 0, none⟩ = some S) : b.cell? ⟨r, 0, none⟩ = some S :=
  (hb.cell (p := ⟨r, 0, none⟩) (World.block_lt_of_cell? _ _ h)).trans h
theorem two_keep {a b : World} {q i j : Nat} {S T : Value} (hb : Below a.heap.size a b) (h : a.cell? ⟨q, i, none⟩ = some S ∧ a.cell? ⟨q, j, none⟩ = some T) : b.cell? ⟨q, i, none⟩ = some S ∧ b.cell? ⟨q, j, none⟩ = some T :=
  ⟨(hb.cell (p := ⟨q, i, none⟩) (World.block_lt_of_cell? _ _ h.1)).trans h.1, (hb.cell (p := ⟨q, j, none⟩) (World.block_lt_of_cell? _ _ h.2)).trans h.2⟩
theorem rkeep' {a b : World} {r i : Nat} {S : Value} (hb : Below a.heap.size a b) (h : a.cell? ⟨r, i, none⟩ = some S) : b.cell? ⟨r, i, none⟩ = some S :=
  (hb.cell (p := ⟨r, i, none⟩) (World.block_lt_of_cell? _ _ h)).trans h
theorem again_size (l : List UInt8) (k : Nat) (hl : l.length ≤ 2000) (hk : k < 40) : (⟨(Wm.again l k).toArray⟩ : ByteArray).size ≤ 1000000 := by
  have h : (⟨(Wm.again l k).toArray⟩ : ByteArray).size = (Wm.again l k).length := by rw [← size_len]
  rw [h, Wm.again_length]
  have h2 : k * l.length ≤ 40 * 2000 := Nat.mul_le_mul (by omega) hl
  omega

set_option maxHeartbeats 8000000 in
set_option maxRecDepth 100000 in
theorem small (s0 : ByteArray) (A : Option Addr) (len cap : Nat) (hs0 : s0.size ≤ 70000) (hl : len ≤ 9223372036854775807) (w : World) (HC : Hid (cellsOf w A len)) :
    Calls Try.prog 3 #[.string s0, .slice A len cap] w fun e w' => e = .returned (.bool true) ∧ Below w.heap.size w w' := by
  go_enter Try.func3, Try.ntmps3
  go_wp2_with fail
  refine (hNew s0 (by omega) _).mono ?_
  rintro e w1 ⟨rfl, h1, b1⟩
  have M2 : Hid (mid w (w1.alloc (.cells #[.string ⟨#[]⟩] 28)) w.heap.size w1.heap.size (Wm.lastN 32768 s0.data.toList) ⟨#[]⟩) :=
    Lib.hid ⟨h1.below ((Below.refl _ _).alloc (Nat.le_refl _) _), Blk.fresh w1 _ _, b1.size, b1.alloc b1.size _⟩
  clear h1 b1
  go_wp2_with fail
  generalize w1.alloc (.cells #[.string ⟨#[]⟩] 28) = w2 at *
  generalize w1.heap.size = r at *
  refine (call_rput M2.out s0 (by decide) (by omega)).mono ?_
  rintro e w3 ⟨rfl, S3, e3, m3⟩
  have e4 : Wm.lastN 32768 s0.data.toList = S3.data.toList := by rw [e3]; rfl
  rw [e4] at m3
  have K0 := Lib.hid m3
  obtain ⟨g0, hg0⟩ : ∃ g0, g0 = w.heap.size := ⟨_, rfl⟩
  rw [← hg0] at K0
  rw [← hg0]
  have HG0 := Lib.hid hg0
  clear m3 e3 e4 M2 hg0
  go_wp2
  go_loopw [5, 7] (fun p i wr => ∃ (j g : Nat) (S : ByteArray), p = .pointer (some ⟨g, 0, none⟩) ∧ i = .int .i64 j ∧ j ≤ len ∧ j ≤ 30 ∧ Hid (mid w wr g r S.data.toList S))
    (fun _ i _ => 30 - (intOf i).toNat)
  case atStart => exact ⟨0, g0, S3, rfl, rfl, by omega, by omega, K0⟩
  case round =>
    obtain ⟨j, g, S, rfl, rfl, hj, hj30, K⟩ := hrel
    clear K0
    by_cases hgo : j < len ∧ j < 30
    · obtain ⟨hjl, hj3⟩ := hgo
      obtain ⟨b, off, x, d, n, s, rfl, hbl, cx, cs, cd, cn, hn0, hn1⟩ := HC.out j hjl
      have k0 : wr.cell? ⟨b, off + j * 4, none⟩ = some (.int .i64 x) := (K.out.b.cell (p := ⟨b, off + j * 4, none⟩) hbl).trans cx
      have k1 : wr.cell? ⟨b, off + j * 4 + 1, none⟩ = some (.string s) := (K.out.b.cell (p := ⟨b, off + j * 4 + 1, none⟩) hbl).trans cs
      have k2 : wr.cell? ⟨b, off + j * 4 + 2, none⟩ = some (.int .i64 d) := (K.out.b.cell (p := ⟨b, off + j * 4 + 2, none⟩) hbl).trans cd
      have k3 : wr.cell? ⟨b, off + j * 4 + 3, none⟩ = some (.int .i64 n) := (K.out.b.cell (p := ⟨b, off + j * 4 + 3, none⟩) hbl).trans cn
      clear cx cs cd cn
      by_cases hs : 2000 < s.size
      · go_wp2
        go_roundw
        case rel => exact ⟨j + 1, g, S, rfl, by go_num, by omega, by omega, Lib.hid (K.out.below ((Below.refl _ _).alloc (Nat.le_refl _) _))⟩
        case measure => simp [intOf]; omega
      · rcases (show x = 0 ∨ x = 1 ∨ x = 2 ∨ x = 3 ∨ (¬ x = 0 ∧ ¬ x = 1 ∧ ¬ x = 2 ∧ ¬ x = 3) by omega) with rfl | rfl | rfl | rfl | ⟨h0, h1, h2, h3⟩
        · have Q3 : Hid (Blk (wr.alloc (.cells #[.int .i64 0, .string s, .int .i64 d, .int .i64 n] 31)) wr.heap.size 31 #[.int .i64 0, .string s, .int .i64 d, .int .i64 n]) := Lib.hid (Blk.fresh wr _ _)
          have M3 := Lib.hid (K.out.below ((Below.refl _ _).alloc (Nat.le_refl _) (.cells #[.int .i64 0, .string s, .int .i64 d, .int .i64 n] 31)))
          go_wp2_with fail
          generalize wr.alloc (.cells #[.int .i64 0, .string s, .int .i64 d, .int .i64 n] 31) = w4' at *
          generalize wr.heap.size = q at *
          clear k0 k1 k2 k3 K
          have c1 : w4'.cell? ⟨q, 1, none⟩ = some (.string s) := Q3.out.cell 1
          have c3 : w4'.cell? ⟨q, 3, none⟩ = some (.int .i64 n) := Q3.out.cell 3
          have hlt := cnt_lt n (m := 40) (by omega)
          have HCn := Lib.hid (fun w => Count_any n 40 ⟨hn0, hn1⟩ (by omega) (by omega) w)
          have HA := Lib.hid (fun w => Again_any s (cnt n 40) (by omega) (by omega) w)
          have hT := again_size s.data.toList (cnt n 40) (by rw [size_len]; omega) hlt
          have hS := M3.out.size
          generalize cnt n 40 = k at *
          obtain ⟨T, hTe⟩ : ∃ T : ByteArray, T = ⟨(Wm.again s.data.toList k).toArray⟩ := ⟨_, rfl⟩
          rw [← hTe] at HA hT
          clear hTe
          go_region_held3 (fun w' => w'.cell? ⟨q, 1, none⟩ = some (.string s) ∧ w'.cell? ⟨q, 3, none⟩ = some (.int .i64 n))
            (first | exact ⟨c1, c3⟩ | assumption | (apply two_keep; assumption; assumption))
            (first | (go_at_call 11; refine (HCn.out _).mono ?_; rintro e w4 ⟨rfl, rfl⟩) | (go_at_call 10; refine (HA.out _).mono ?_; rintro e w4 ⟨rfl, b4⟩))
          have M4 := Lib.hid (M3.out.drew.below b4)
          clear b4 c1 c3 M3 Q3
          go_wp2_with fail
          refine (call_put M4.out T hT).mono ?_
          rintro e w5 ⟨rfl, m5⟩
          go_wp2_with fail
          refine (call_rput m5 T (by omega) hT).mono ?_
          rintro e w6 ⟨rfl, S6, e6, m6⟩
          rw [← e6] at m6
          have K6 := Lib.hid m6
          clear m5 m6 e6 M4
          have c9 : w6.cell? ⟨r, 0, none⟩ = some (.string S6) := K6.out.cell
          have hS9 := K6.out.size
          go_wp2_with fail
          go_region_held3 (fun w' => w'.cell? ⟨r, 0, none⟩ = some (.string S6))
            (first | exact c9 | assumption | (apply rkeep; assumption; assumption))
            (first | (go_at_call 19; refine (call_len K6.out.drew).mono ?_; rintro e w8 ⟨rfl, rfl⟩) | (go_at_call 15; refine (call_last40 K6.out.drew).mono ?_; rintro e w9 ⟨rfl, b9⟩))
          have K9 := Lib.hid (K6.out.drew.below b9)
          clear b9 c9 K6
          go_wp2
          go_roundw
          case rel => exact ⟨j + 1, g, S6, rfl, by go_num, by omega, by omega, K9⟩
          case measure => simp [intOf]; omega
        · have Q3 : Hid (Blk (wr.alloc (.cells #[.int .i64 1, .string s, .int .i64 d, .int .i64 n] 31)) wr.heap.size 31 #[.int .i64 1, .string s, .int .i64 d, .int .i64 n]) := Lib.hid (Blk.fresh wr _ _)
          have M3 := Lib.hid (K.out.below ((Below.refl _ _).alloc (Nat.le_refl _) (.cells #[.int .i64 1, .string s, .int .i64 d, .int .i64 n] 31)))
          go_wp2_with fail
          generalize wr.alloc (.cells #[.int .i64 1, .string s, .int .i64 d, .int .i64 n] 31) = w4' at *
          generalize wr.heap.size = q at *
          clear k0 k1 k2 k3 K
          have c2 : w4'.cell? ⟨q, 2, none⟩ = some (.int .i64 d) := Q3.out.cell 2
          have c3 : w4'.cell? ⟨q, 3, none⟩ = some (.int .i64 n) := Q3.out.cell 3
          have hS := M3.out.size
          by_cases he : copE S.size d n = 0
          · rcases copE_cases S.size d n with ⟨e, _⟩ | ⟨e, _⟩ | ⟨_, D, N, rfl, rfl, hN, hD, hDS⟩
            · rw [he] at e; cases e
            · rw [he] at e; cases e
            go_wp2_with fail
            refine (call_copy_ok M3.out hN hD hDS Q3.out).mono ?_
            rintro e w4 ⟨rfl, m4, q4⟩
            have M4 := Lib.hid m4
            have d2 : w4.cell? ⟨q, 2, none⟩ = some (.int .i64 D) := q4.cell 2
            have d3 : w4.cell? ⟨q, 3, none⟩ = some (.int .i64 N) := q4.cell 3
            clear m4 q4 c2 c3 M3 Q3 he
            obtain ⟨O, hO⟩ : ∃ O : ByteArray, O = ⟨(Wm.out S.data.toList D N).toArray⟩ := ⟨_, rfl⟩
            have HRC := Lib.hid (call_rcopy_ok M4.out (by omega) hN hD hDS)
            rw [← hO] at HRC
            rw [← hO]
            clear hO
            go_wp2_with fail
            refine HRC.out.mono ?_
            rintro e w6 ⟨rfl, S6, e6, m6⟩
            rw [← e6] at m6
            have K6 := Lib.hid m6
            clear m6 e6 M4 d2 d3 HRC
            have c9 : w6.cell? ⟨r, 0, none⟩ = some (.string S6) := K6.out.cell
            have hS9 := K6.out.size
            go_wp2_with fail
            go_region_held3 (fun w' => w'.cell? ⟨r, 0, none⟩ = some (.string S6))
              (first | exact c9 | assumption | (apply rkeep; assumption; assumption))
              (first | (go_at_call 19; refine (call_len K6.out.drew).mono ?_; rintro e w8 ⟨rfl, rfl⟩) | (go_at_call 15; refine (call_last40 K6.out.drew).mono ?_; rintro e w9 ⟨rfl, b9⟩))
            have K9 := Lib.hid (K6.out.drew.below b9)
            clear b9 c9 K6
            go_wp2
            go_roundw
            case rel => exact ⟨j + 1, g, S6, rfl, by go_num, by omega, by omega, K9⟩
            case measure => simp [intOf]; omega
          · have HN := Lib.hid (call_copy_no M3.out d n he)
            have HR := Lib.hid (call_rcopy_no M3.out d n he)
            generalize copE S.size d n = E at *
            clear he
            go_wp2_with fail
            refine HN.out.mono ?_
            rintro e w4 ⟨rfl, rfl⟩
            go_wp2_with fail
            refine HR.out.mono ?_
            rintro e w4 ⟨rfl, rfl⟩
            clear c2 c3 Q3 HN HR
            have c9 : w4'.cell? ⟨r, 0, none⟩ = some (.string S) := M3.out.cell
            have hS9 := M3.out.size
            go_wp2_with fail
            go_region_held3 (fun w' => w'.cell? ⟨r, 0, none⟩ = some (.string S))
              (first | exact c9 | assumption | (apply rkeep; assumption; assumption))
              (first | (go_at_call 19; refine (call_len M3.out.drew).mono ?_; rintro e w8 ⟨rfl, rfl⟩) | (go_at_call 15; refine (call_last40 M3.out.drew).mono ?_; rintro e w9 ⟨rfl, b9⟩))
            have K9 := Lib.hid (M3.out.drew.below b9)
            clear b9 c9 M3
            go_wp2
            go_roundw
            case rel => exact ⟨j + 1, g, S, rfl, by go_num, by omega, by omega, K9⟩
            case measure => simp [intOf]; omega
        · have Q3 : Hid (Blk (wr.alloc (.cells #[.int .i64 2, .string s, .int .i64 d, .int .i64 n] 31)) wr.heap.size 31 #[.int .i64 2, .string s, .int .i64 d, .int .i64 n]) := Lib.hid (Blk.fresh wr _ _)
          have M3 := Lib.hid (K.out.below ((Below.refl _ _).alloc (Nat.le_refl _) (.cells #[.int .i64 2, .string s, .int .i64 d, .int .i64 n] 31)))
          go_wp2_with fail
          generalize wr.alloc (.cells #[.int .i64 2, .string s, .int .i64 d, .int .i64 n] 31) = w4' at *
          generalize wr.heap.size = q at *
          clear k0 k1 k2 k3 K
          have c3 : w4'.cell? ⟨q, 3, none⟩ = some (.int .i64 n) := Q3.out.cell 3
          have hS := M3.out.size
          obtain ⟨O, hO⟩ : ∃ O : ByteArray, O = ⟨(Wm.lastN n.toNat S.data.toList).toArray⟩ := ⟨_, rfl⟩
          have HLA : Hid (∀ w', mid w w' g r S.data.toList S → Calls Try.prog 15 #[.pointer (some ⟨g, 0, none⟩), .int .i64 n] w' fun e w'' => e = .returned (.string O) ∧ Below w'.heap.size w' w'') := Lib.hid (fun w' m => by rw [hO]; exact call_last m n)
          have HRL : Hid (∀ w', mid w w' g r S.data.toList S → Calls Try.prog 16 #[.pointer (some ⟨r, 0, none⟩), .int .i64 n] w' fun e w'' => e = .returned (.string O) ∧ Below w'.heap.size w' w'') := Lib.hid (fun w' m => by rw [hO]; exact call_rlast m n (by omega))
          clear hO
          go_region_held3 (fun w' => w'.cell? ⟨q, 3, none⟩ = some (.int .i64 n))
            (first | exact c3 | assumption | (apply rkeep'; assumption; assumption))
            (first | (go_at_call 15; refine (HLA.out _ M3.out.drew).mono ?_; rintro e w4 ⟨rfl, b4⟩; have M4 := Lib.hid (M3.out.drew.below b4)) | (go_at_call 16; refine (HRL.out _ M4.out).mono ?_; rintro e w5 ⟨rfl, b5⟩))
          have K6 := Lib.hid (M4.out.below b5)
          clear b4 b5 c3 M3 M4 Q3 HLA HRL
          have c9 : w5.cell? ⟨r, 0, none⟩ = some (.string S) := K6.out.cell
          have hS9 := K6.out.size
          go_wp2_with fail
          go_region_held3 (fun w' => w'.cell? ⟨r, 0, none⟩ = some (.string S))
            (first | exact c9 | assumption | (apply rkeep; assumption; assumption))
            (first | (go_at_call 19; refine (call_len K6.out.drew).mono ?_; rintro e w8 ⟨rfl, rfl⟩) | (go_at_call 15; refine (call_last40 K6.out.drew).mono ?_; rintro e w9 ⟨rfl, b9⟩))
          have K9 := Lib.hid (K6.out.drew.below b9)
          clear b9 c9 K6
          go_wp2
          go_roundw
          case rel => exact ⟨j + 1, g, S, rfl, by go_num, by omega, by omega, K9⟩
          case measure => simp [intOf]; omega
        · have Q3 : Hid (Blk (wr.alloc (.cells #[.int .i64 3, .string s, .int .i64 d, .int .i64 n] 31)) wr.heap.size 31 #[.int .i64 3, .string s, .int .i64 d, .int .i64 n]) := Lib.hid (Blk.fresh wr _ _)
          have M3 := Lib.hid (K.out.below ((Below.refl _ _).alloc (Nat.le_refl _) (.cells #[.int .i64 3, .string s, .int .i64 d, .int .i64 n] 31)))
          go_wp2_with fail
          generalize wr.alloc (.cells #[.int .i64 3, .string s, .int .i64 d, .int .i64 n] 31) = w4' at *
          generalize wr.heap.size = q at *
          clear k0 k1 k2 k3 K
          refine (call_clear M3.out).mono ?_
          rintro e w4 ⟨rfl, m4⟩
          have c4 := m4.cell
          have f4 := m4.frozen
          obtain ⟨Z, hZ⟩ : ∃ Z : ByteArray, Z = ⟨#[]⟩ := ⟨_, rfl⟩
          have K6 : Hid (mid w (w4.setCell ⟨r, 0, none⟩ (.string ⟨#[]⟩)) g r Z.data.toList Z) := Lib.hid (by rw [hZ]; exact m4.zero)
          clear m4 M3 Q3 hZ
          go_wp2_with fail
          generalize w4.setCell ⟨r, 0, none⟩ (.string ⟨#[]⟩) = w5 at *
          clear c4 f4
          have c9 : w5.cell? ⟨r, 0, none⟩ = some (.string Z) := K6.out.cell
          have hS9 := K6.out.size
          go_wp2_with fail
          go_region_held3 (fun w' => w'.cell? ⟨r, 0, none⟩ = some (.string Z))
            (first | exact c9 | assumption | (apply rkeep; assumption; assumption))
            (first | (go_at_call 19; refine (call_len K6.out.drew).mono ?_; rintro e w8 ⟨rfl, rfl⟩) | (go_at_call 15; refine (call_last40 K6.out.drew).mono ?_; rintro e w9 ⟨rfl, b9⟩))
          have K9 := Lib.hid (K6.out.drew.below b9)
          clear b9 c9 K6
          go_wp2
          go_roundw
          case rel => exact ⟨j + 1, g, Z, rfl, by go_num, by omega, by omega, K9⟩
          case measure => simp [intOf]; omega
        · have Q3 : Hid (Blk (wr.alloc (.cells #[.int .i64 x, .string s, .int .i64 d, .int .i64 n] 31)) wr.heap.size 31 #[.int .i64 x, .string s, .int .i64 d, .int .i64 n]) := Lib.hid (Blk.fresh wr _ _)
          have M3 := Lib.hid (K.out.below ((Below.refl _ _).alloc (Nat.le_refl _) (.cells #[.int .i64 x, .string s, .int .i64 d, .int .i64 n] 31)))
          go_wp2_with fail
          generalize wr.alloc (.cells #[.int .i64 x, .string s, .int .i64 d, .int .i64 n] 31) = w4' at *
          generalize wr.heap.size = q at *
          clear k0 k1 k2 k3 K
          refine (call_twin M3.out).mono ?_
          rintro e w4 ⟨t, rfl, m4⟩
          have M4 := Lib.hid m4
          clear m4 M3 Q3
          go_wp2_with fail
          refine (call_left M4.out _ (by decide)).mono ?_
          rintro e w5 ⟨rfl, m5⟩
          have K6 := Lib.hid m5
          clear m5 M4
          have c9 : w5.cell? ⟨r, 0, none⟩ = some (.string S) := K6.out.cell
          have hS9 := K6.out.size
          go_wp2_with fail
          go_region_held3 (fun w' => w'.cell? ⟨r, 0, none⟩ = some (.string S))
            (first | exact c9 | assumption | (apply rkeep; assumption; assumption))
            (first | (go_at_call 19; refine (call_len K6.out.drew).mono ?_; rintro e w8 ⟨rfl, rfl⟩) | (go_at_call 15; refine (call_last40 K6.out.drew).mono ?_; rintro e w9 ⟨rfl, b9⟩))
          have K9 := Lib.hid (K6.out.drew.below b9)
          clear b9 c9 K6
          go_wp2
          go_roundw
          case rel => exact ⟨j + 1, t, S, rfl, by go_num, by omega, by omega, K9⟩
          case measure => simp [intOf]; omega
    · rcases (show (¬ j < len) ∨ (j < len ∧ ¬ j < 30) by omega) with h | ⟨h, h'⟩
      all_goals
        go_wp2_with (go_at_call 7; refine (known_any _).mono ?_; rintro e w' ⟨rfl, hb⟩)
        go_ret
        exact ⟨rfl, K.out.b.trans (hb.mono K.out.b.size)⟩

set_option maxRecDepth 100000 in
theorem walk (s0 : ByteArray) (A : Option Addr) (len cap : Nat) (hl : len ≤ 9223372036854775807) (w : World) (HC : Hid (cellsOf w A len)) :
    Calls Try.prog 3 #[.string s0, .slice A len cap] w fun e w' => e = .returned (.bool true) ∧ Below w.heap.size w w' := by
  by_cases hs : 70000 < s0.size
  · go_enter Try.func3, Try.ntmps3
    go_wp2_with (go_at_call 7; refine (known_any _).mono ?_; rintro e w' ⟨rfl, hb⟩)
    go_ret
    exact ⟨rfl, hb⟩
  · exact small s0 A len cap (by omega) hl w HC

theorem cellsO : Try.prog.cellsOf 31 = 4 := by kernel_rfl
theorem cells3 : Try.prog.cellsOf 3 = 1 := by kernel_rfl
theorem cells9 : Try.prog.cellsOf 9 = 1 := by kernel_rfl

set_option maxRecDepth 100000 in
theorem lifted (os : Os) (started : os.Started) (H : Type) (enc : TypeId × Value → H) :
    ReturnsInHanded {} Try.checked os 3 .any (Rows.windowPlaysSpec.pre6 enc Try.prog Try.f3 Rows.windowPlaysRow.domain false) (Rows.windowPlaysSpec.post enc Try.prog Try.f3 false true false false) := by
  refine returnsInHanded_of_change (C := Try.checked) own started (by kernel_rfl) Try.func3
    (ChangeSpec.witness6 (enc := enc) (C := Try.checked) false ⟨#[], #[.string ByteArray.empty, .slice none 0 0], []⟩ 8 (by kernel_rfl) (by kernel_rfl) (by kernel_rfl) (by kernel_rfl)) ?_
  intro W base args ds gs before hval0 hW _ _
  have hval : ∀ (j : Nat) t v, Try.f3.params[j]? = some t → args[j]? = some v → Value.okWide Try.prog W .any base t v := hval0
  have hW' := hW
  obtain ⟨p, q, hA0, hV, rfl, hfz, hnd⟩ := hW
  have hA : DataW.TrodAll enc Try.prog W 0 (fun _ => true) true Try.f3.params.toList args.toList ds p := hA0
  rw [Try.params3] at hA hval
  obtain ⟨v0, vs0, d0, ds0, p0, q0, hargs, rfl, rfl, h0, r0⟩ := trodAll_cons hA
  obtain ⟨v1, vs1, d1, ds1, p1, q1, rfl, rfl, rfl, h1, r1⟩ := trodAll_cons r0
  obtain ⟨rfl, rfl, rfl⟩ := trodAll_nil r1
  obtain rfl : args = #[v0, v1] := by cases args; simp_all
  obtain ⟨rfl, rfl⟩ := trodVars_none hV
  obtain ⟨a0, rfl, rfl, rfl, w0⟩ := open_string Try.underlying9 (hval 0 9 v0 rfl rfl) h0
  obtain ⟨A1, len, cap, rfl⟩ := okWide_slice Try.underlying22 (hval 1 22 v1 rfl rfl)
  have hcells : len ≤ 9223372036854775807 ∧ cellsOf W A1 len := by
    rcases open_plays Try.underlying22 Try.underlying31 Try.underlying3 Try.underlying9 cellsO cells3 cells9 rfl rfl rfl rfl ⟨rfl, rfl⟩ ⟨rfl, rfl⟩ ⟨rfl, rfl⟩ ⟨rfl, rfl⟩ h1 with rfl | ⟨b, off, rfl, hl, hm, hb, hi⟩
    · exact ⟨by omega, fun i hi => absurd hi (by omega)⟩
    · unfold maxLen at hm
      refine ⟨by omega, fun i hlt => ?_⟩
      obtain ⟨x, y, z, s, hx, hs, hy, hz, _, _, wz, _⟩ := hi i hlt
      have hz' : -9223372036854775808 ≤ z ∧ z ≤ 9223372036854775807 := by simpa [Lit.wf, IntKind.min, IntKind.max, IntKind.signed, IntKind.bits] using wz
      exact ⟨b, off, x, y, z, s, rfl, hb, hx, hs, hy, hz, hz'.1, hz'.2⟩
  refine (walk a0 A1 len cap hcells.1 W (Lib.hid hcells.2)).mono fun e W' ⟨he, hb⟩ => ?_
  subst he
  exact ⟨_, rfl, law_post (P := Try.prog) (f := Try.f3) laidOut (by kernel_rfl) (by kernel_rfl) Try.underlying4 rfl hW' rfl hb⟩

theorem proved : Rows.WindowPlaysSaid :=
  OpenClaim.holds_of_wide 3 Try.f3 rfl rfl rfl rfl rfl rfl rfl ⟨rfl, rfl, rfl, rfl, rfl⟩ rfl rfl rfl rfl rfl (by kernel_rfl) Try.func3 (by kernel_rfl)
    (of_decide_eq_true (by kernel_rfl)) (by unfold Func.isWrapper; first | (rw [if_pos (by decide +kernel)]; kernel_rfl) | (rw [if_neg (by decide +kernel)]; exact ⟨rfl, rfl⟩))
    (fun os started H enc _ => lifted os started H enc)
#print axioms proved
end Go.Proofs.Ytoniejpbgidmfaa.windowPlays
