/-
  block.FixedLits and block.FixedDists: new lists; nothing that was there has changed.
  Conditions: none.
-/
import Derived.Test.YtgbdecnaamlekaaDoorKc
namespace Go.Proofs.YtgbdecnaamlekaaDoor.Kd
open Go.RowKit Go.Proofs.YtgbdecnaamlekaaDoor.Bw Go.Proofs.YtgbdecnaamlekaaDoor.Na Go.Proofs.YtgbdecnaamlekaaDoor.Nm Go.Proofs.YtgbdecnaamlekaaDoor.Ko Go.Proofs.YtgbdecnaamlekaaDoor.Nf Go.Proofs.YtgbdecnaamlekaaDoor.Ka Go.Proofs.YtgbdecnaamlekaaDoor.Kb Go.Proofs.YtgbdecnaamlekaaDoor.Km

/-- Natural numbers as ints. -/
def ofN (l : List Nat) : List Int := l.map (fun x : Nat => (x : Int))
theorem ofN_length (l : List Nat) : (ofN l).length = l.length := by simp [ofN]
theorem ofN_at (l : List Nat) (i : Nat) : at' (ofN l) i = ix l i := by
  unfold at' ofN ix nth
  rw [List.getD_eq_getElem?_getD, List.getD_eq_getElem?_getD, List.getElem?_map]
  cases l[i]? <;> simp
theorem ofN_append (a b : List Nat) : ofN (a ++ b) = ofN a ++ ofN b := by simp [ofN]
theorem ofN_rep (n x : Nat) : ofN (List.replicate n x) = List.replicate n (x : Int) := by simp [ofN]
theorem ints_lower {w : World} {b b' : Nat} {e : TypeId} {v : Value} {l : List Int} (h : ints w b e v l) (hb : b' ≤ b) : ints w b' e v l := by
  refine ⟨h.1, ?_⟩
  rcases h.2 with h0 | ⟨g, cap, cur, e1, e2, e3⟩
  · exact .inl h0
  · exact .inr ⟨g, cap, cur, e1, Nat.le_trans hb e2, e3⟩
/-- A list in memory that reads as l, in a block of ints. -/
def lst (w : World) (v : Value) (l : List Nat) : Prop := ints w 0 3 v (ofN l)
theorem lst_of {w : World} {base : Nat} {v : Value} {l : List Nat} (h : ints w base 3 v (ofN l)) : lst w v l := ints_lower h (Nat.zero_le _)
theorem lst.below {w w' : World} {v : Value} {l : List Nat} (h : lst w v l) (k : Below w.heap.size w w') : lst w' v l := ints.below h k
theorem lst_nil (w : World) : lst w (.slice none 0 0) [] := ints_nil w 0 _
theorem lst.row {w : World} {A : Option Addr} {n c : Nat} {l : List Nat} (h : lst w (.slice A n c) l) : n = l.length ∧ row w A n (ix l) := by
  obtain ⟨A', c', e⟩ := ints.form h
  injection e with _ e _
  rw [ofN_length] at e
  have hr := ints.row h
  rw [ofN_length, ← e] at hr
  exact ⟨e, hr.congr (fun i _ => ofN_at l i)⟩
/-- It stays where only blocks of other types have changed. -/
theorem lst.off {w w' : World} {S : Nat → Prop} {v : Value} {l : List Nat} (h : lst w v l) (k : Only S w w') (hS : ∀ i, S i → ∃ t cs, Blk w i t cs ∧ t ≠ 3) : lst w' v l :=
  ints.only h k (fun i hi hs => by
    obtain ⟨t, cs, hb, ht⟩ := hS i hs
    exact own_apart h hb (fun e => ht e.symm) i hi rfl)

def S4 (a b c d : Nat) : Nat → Option Addr | 0 => some ⟨a, 0, none⟩ | 1 => some ⟨b, 0, none⟩ | 2 => some ⟨c, 0, none⟩ | _ => some ⟨d, 0, none⟩
def N4 : Nat → Nat | 0 => 144 | 1 => 112 | 2 => 24 | _ => 8
def F4 : Nat → Nat → Int | 0 => fun _ => 8 | 1 => fun _ => 9 | 2 => fun _ => 7 | _ => fun _ => 8
theorem cat4 : cat N4 F4 4 = ofN fixL := by
  show ((([] ++ upto 144 (fun _ => (8 : Int))) ++ upto 112 (fun _ => (9 : Int))) ++ upto 24 (fun _ => (7 : Int))) ++ upto 8 (fun _ => (8 : Int)) = _
  rw [upto_const, upto_const, upto_const, upto_const]
  unfold fixL
  rw [ofN_append, ofN_append, ofN_append, ofN_rep, ofN_rep, ofN_rep, ofN_rep, List.nil_append]
  rfl

set_option maxRecDepth 100000 in
theorem FixedLits_any (w : World) : Calls Tryd.prog 27 #[] w fun e w' => ∃ v, e = .returned v ∧ ints w' w.heap.size 3 v (ofN fixL) ∧ Below w.heap.size w w' := by
  go_enter Tryd.func27, Tryd.ntmps27
  go_wp2_with fail
  refine (equal_any 8 (n := 144) 144 rfl (by omega) (by omega) w).mono ?_
  rintro e w1 ⟨g1, rfl, k1, p1, b1⟩
  have K1 := Lib.hid k1; have B1 := Lib.hid b1; clear k1 b1
  go_wp2_with fail
  refine (equal_any 9 (n := 112) 112 rfl (by omega) (by omega) w1).mono ?_
  rintro e w2 ⟨g2, rfl, k2, p2, b2⟩
  have K2 := Lib.hid k2; have B2 := Lib.hid b2; clear k2 b2
  go_wp2_with fail
  refine (equal_any 7 (n := 24) 24 rfl (by omega) (by omega) w2).mono ?_
  rintro e w3 ⟨g3, rfl, k3, p3, b3⟩
  have K3 := Lib.hid k3; have B3 := Lib.hid b3; clear k3 b3
  go_wp2_with fail
  refine (equal_any 8 (n := 8) 8 rfl (by omega) (by omega) w3).mono ?_
  rintro e w4 ⟨g4, rfl, k4, p4, b4⟩
  have K4 := Lib.hid k4; have B4 := Lib.hid b4; clear k4 b4
  go_wp2_with fail
  obtain ⟨w5, hw5⟩ : ∃ w5, w5 = w4.alloc (.cells #[.slice (some ⟨g1, 0, none⟩) 144 144, .slice (some ⟨g2, 0, none⟩) 112 112, .slice (some ⟨g3, 0, none⟩) 24 24, .slice (some ⟨g4, 0, none⟩) 8 8] 31) := ⟨_, rfl⟩
  have B5 : Hid (Below w4.heap.size w4 w5) := Lib.hid (by rw [hw5]; exact below_alloc _ _)
  have HC : Hid (lists w5 w4.heap.size 4 (S4 g1 g2 g3 g4) N4 N4 F4) := Lib.hid ⟨by rw [hw5, size_alloc]; omega, fun i hi => by
    have kb : Blk w5 w4.heap.size 31 #[.slice (some ⟨g1, 0, none⟩) 144 144, .slice (some ⟨g2, 0, none⟩) 112 112, .slice (some ⟨g3, 0, none⟩) 24 24, .slice (some ⟨g4, 0, none⟩) 8 8] := by rw [hw5]; exact Blk.fresh _ _ _
    rw [kb.cell]
    rcases (show i = 0 ∨ i = 1 ∨ i = 2 ∨ i = 3 by omega) with rfl | rfl | rfl | rfl
    · exact ⟨rfl, row_of_blk ((((K1.out.below B2.out).below B3.out).below B4.out).below B5.out)⟩
    · exact ⟨rfl, row_of_blk (((K2.out.below B3.out).below B4.out).below B5.out)⟩
    · exact ⟨rfl, row_of_blk ((K3.out.below B4.out).below B5.out)⟩
    · exact ⟨rfl, row_of_blk (K4.out.below B5.out)⟩⟩
  rw [← hw5]
  have HB : Hid (Below w.heap.size w w5) := Lib.hid (grows (grows (grows (grows B1.out B2.out) B3.out) B4.out) B5.out)
  have HL : Hid ((cat N4 F4 4).length = 288) := Lib.hid (by rw [cat4, ofN_length, fixL_length])
  clear hw5
  refine (Concat_any (k := 4) (by omega) (by rw [HL.out]; omega) (by rw [HL.out]; omega) HC).mono ?_
  rintro e w6 ⟨v, rfl, k6, b6⟩
  have K6 := Lib.hid k6; have B6 := Lib.hid b6; clear k6 b6
  obtain ⟨A6, c6, hv⟩ := K6.out.form
  rw [HL.out] at hv
  subst hv
  go_wp2
  go_ret
  refine ⟨_, rfl, ?_, grows HB.out B6.out⟩
  have := K6.out
  rw [cat4] at this
  exact ints_lower this HB.out.size

theorem FixedDists_any (w : World) : Calls Tryd.prog 28 #[] w fun e w' => ∃ v, e = .returned v ∧ ints w' w.heap.size 3 v (ofN fixD) ∧ Below w.heap.size w w' := by
  go_enter Tryd.func28, Tryd.ntmps28
  go_wp2_with fail
  refine (equal_any 5 (n := 32) 32 rfl (by omega) (by omega) w).mono ?_
  rintro e w1 ⟨g1, rfl, k1, p1, b1⟩
  have K1 := Lib.hid k1; have B1 := Lib.hid b1; clear k1 b1
  go_wp2
  go_ret
  refine ⟨_, rfl, ?_, B1.out⟩
  have := ints_of_blk K1.out p1 (by omega)
  rw [upto_const] at this
  unfold fixD
  rw [ofN_rep]
  exact this
end Go.Proofs.YtgbdecnaamlekaaDoor.Kd
