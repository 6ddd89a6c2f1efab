/-
  block.unwritable: what is wrong of a head that is to be written; block.writeLengths: a dynamic head's lengths written.
  block.writeLengths: a dynamic head's lengths written.
  block.Write: what it answers, and what is written.
  The statements' taken, the reference's Same of heads that are alike, the place that Count tells.
  The reference's writer as it goes on: numbers with their bits, one behind the other; the reference's fits and order.
  The reference's Write of a head: what it answers, and what is written.
  The reference's Write of a dynamic head.
  The reference's Write of any head.
  Conditions: as each theorem says.
-/
import Derived.Test.YtgbdecnaamlekaaDoorQaz
import Derived.Test.YtgbdecnaamlekaaDoorQat
import Derived.Test.YtgbdecnaamlekaaDoorQbd
import Derived.Test.YtgbdecnaamlekaaDoorQbf
import Derived.Test.YtgbdecnaamlekaaDoorQah
import Derived.Test.YtgbdecnaamlekaaDoorQbg
import Derived.Test.YtgbdecnaamlekaaDoorQax
namespace Go.Proofs.YtgbdecnaamlekaaDoor.Ki
open Go.RowKit Go.Proofs.YtgbdecnaamlekaaDoor.Vm Go.Proofs.YtgbdecnaamlekaaDoor.Vo Go.Proofs.YtgbdecnaamlekaaDoor.Bm Go.Proofs.YtgbdecnaamlekaaDoor.Bt Go.Proofs.YtgbdecnaamlekaaDoor.Bw Go.Proofs.YtgbdecnaamlekaaDoor.Bp Go.Proofs.YtgbdecnaamlekaaDoor.Bs Go.Proofs.YtgbdecnaamlekaaDoor.Bv Go.Proofs.YtgbdecnaamlekaaDoor.Bx Go.Proofs.YtgbdecnaamlekaaDoor.Na Go.Proofs.YtgbdecnaamlekaaDoor.Nf Go.Proofs.YtgbdecnaamlekaaDoor.Nm Go.Proofs.YtgbdecnaamlekaaDoor.Ni Go.Proofs.YtgbdecnaamlekaaDoor.Ne Go.Proofs.YtgbdecnaamlekaaDoor.Nh Go.Proofs.YtgbdecnaamlekaaDoor.Pm Go.Proofs.YtgbdecnaamlekaaDoor.Pw Go.Proofs.YtgbdecnaamlekaaDoor.Pi Go.Proofs.YtgbdecnaamlekaaDoor.Ko Go.Proofs.YtgbdecnaamlekaaDoor.Ka Go.Proofs.YtgbdecnaamlekaaDoor.Kb Go.Proofs.YtgbdecnaamlekaaDoor.Km Go.Proofs.YtgbdecnaamlekaaDoor.Kw Go.Proofs.YtgbdecnaamlekaaDoor.Ks Go.Proofs.YtgbdecnaamlekaaDoor.Kc Go.Proofs.YtgbdecnaamlekaaDoor.Kd Go.Proofs.YtgbdecnaamlekaaDoor.Ke Go.Proofs.YtgbdecnaamlekaaDoor.Ky Go.Proofs.YtgbdecnaamlekaaDoor.Kx Go.Proofs.YtgbdecnaamlekaaDoor.Ku Go.Proofs.YtgbdecnaamlekaaDoor.Kh

section
variable {w : World} {b : Bool} {k z : Int} {A1 A2 : Option Addr} {n1 c1 n2 c2 : Nat} {f1 f2 : Nat → Int}
set_option maxRecDepth 100000 in
theorem unwritable_sto (HR : k = 0) : Calls Tryd.prog 41 #[hv b k z (.slice A1 n1 c1) (.slice A2 n2 c2)] w fun e w' => e = .returned (.int .i64 (wrM k z n1 f1 n2 f2)) ∧ Below w.heap.size w w' := by
  subst HR
  by_cases h1 : z < 0
  · have HS := Lib.hid (show wrM 0 z n1 f1 n2 f2 = 1 by unfold wrM; rw [if_pos (by omega)])
    go_enter Tryd.func41, Tryd.ntmps41
    go_wp2
    go_ret
    exact ⟨ret_i64 HS.out.symm, below_alloc _ _⟩
  · by_cases h2 : 65535 < z
    · have HS := Lib.hid (show wrM 0 z n1 f1 n2 f2 = 1 by unfold wrM; rw [if_pos (by omega)])
      go_enter Tryd.func41, Tryd.ntmps41
      go_wp2
      go_ret
      exact ⟨ret_i64 HS.out.symm, below_alloc _ _⟩
    · have HS := Lib.hid (show wrM 0 z n1 f1 n2 f2 = 0 by unfold wrM; rw [if_neg (by omega), if_neg (by omega)])
      go_enter Tryd.func41, Tryd.ntmps41
      go_wp2
      go_ret
      exact ⟨ret_i64 HS.out.symm, below_alloc _ _⟩
set_option maxRecDepth 100000 in
theorem unwritable_fix (HR : k = 1) : Calls Tryd.prog 41 #[hv b k z (.slice A1 n1 c1) (.slice A2 n2 c2)] w fun e w' => e = .returned (.int .i64 (wrM k z n1 f1 n2 f2)) ∧ Below w.heap.size w w' := by
  subst HR
  have HS := Lib.hid (show wrM 1 z n1 f1 n2 f2 = 0 by unfold wrM; rw [if_neg (by omega), if_neg (by omega)])
  go_enter Tryd.func41, Tryd.ntmps41
  go_wp2
  go_ret
  exact ⟨ret_i64 HS.out.symm, below_alloc _ _⟩
set_option maxRecDepth 100000 in
theorem unwritable_no (h : k < 0 ∨ 2 < k) : Calls Tryd.prog 41 #[hv b k z (.slice A1 n1 c1) (.slice A2 n2 c2)] w fun e w' => e = .returned (.int .i64 (wrM k z n1 f1 n2 f2)) ∧ Below w.heap.size w w' := by
  have HS := Lib.hid (show wrM k z n1 f1 n2 f2 = 1 by unfold wrM; rw [if_pos (by omega)])
  have h0 : (k == 0) = false := by simp; omega
  have h1 : (k == 1) = false := by simp; omega
  have h2 : (k == 2) = false := by simp; omega
  clear h
  go_enter Tryd.func41, Tryd.ntmps41
  go_wp2
  go_ret
  exact ⟨ret_i64 HS.out.symm, below_alloc _ _⟩
set_option maxRecDepth 100000 in
theorem unwritable_dyn (hk : k = 2) (hn1 : n1 ≤ 9223372036854775807) (hn2 : n2 ≤ 9223372036854775807) (R1 : Hid (row w A1 n1 f1)) (R2 : Hid (row w A2 n2 f2)) :
    Calls Tryd.prog 41 #[hv b k z (.slice A1 n1 c1) (.slice A2 n2 c2)] w fun e w' => e = .returned (.int .i64 (wrM k z n1 f1 n2 f2)) ∧ Below w.heap.size w w' := by
  subst hk
  by_cases hb : n1 < 257 ∨ 286 < n1 ∨ n2 < 1 ∨ 30 < n2
  · have HS := Lib.hid (show wrM 2 z n1 f1 n2 f2 = 1 by unfold wrM; rw [if_neg (by omega), if_pos rfl, if_pos hb])
    clear R1 R2
    rcases (show (n1 < 257) ∨ (257 ≤ n1 ∧ 286 < n1) ∨ (257 ≤ n1 ∧ n1 ≤ 286 ∧ n2 < 1) ∨ (257 ≤ n1 ∧ n1 ≤ 286 ∧ 1 ≤ n2 ∧ 30 < n2) by omega) with h | ⟨h, h'⟩ | ⟨h, h', h2⟩ | ⟨h, h', h2, h3⟩
    all_goals
      clear hb
      go_enter Tryd.func41, Tryd.ntmps41
      go_wp2
      go_ret
      exact ⟨ret_i64 HS.out.symm, below_alloc _ _⟩
  · have HS := Lib.hid (show wrM 2 z n1 f1 n2 f2 = fitsI n1 f1 n2 f2 by unfold wrM; rw [if_neg (by omega), if_pos rfl, if_neg hb])
    have h1 : 257 ≤ n1 := by omega
    have h1' : n1 ≤ 286 := by omega
    have h2 : 1 ≤ n2 := by omega
    have h2' : n2 ≤ 30 := by omega
    clear hb
    have HU := fun u (hu : Below w.heap.size w u) => Lib.hid (unfit_any (c1 := c1) (c2 := c2) h1 hn1 hn2 (Lib.hid (R1.out.below hu)) (Lib.hid (R2.out.below hu)))
    obtain ⟨y, hy⟩ : ∃ y, y = fitsI n1 f1 n2 f2 := ⟨_, rfl⟩
    rw [← hy] at HU HS
    clear hy R1 R2
    go_enter Tryd.func41, Tryd.ntmps41
    go_wp2_with fail
    refine (HU _ (below_alloc _ _)).out.mono ?_
    rintro e w1 ⟨rfl, b1⟩
    go_wp2
    go_ret
    exact ⟨ret_i64 HS.out.symm, grows (below_alloc _ _) b1⟩
theorem unwritable_any (hn1 : n1 ≤ 9223372036854775807) (hn2 : n2 ≤ 9223372036854775807) (R1 : Hid (row w A1 n1 f1)) (R2 : Hid (row w A2 n2 f2)) :
    Calls Tryd.prog 41 #[hv b k z (.slice A1 n1 c1) (.slice A2 n2 c2)] w fun e w' => e = .returned (.int .i64 (wrM k z n1 f1 n2 f2)) ∧ Below w.heap.size w w' := by
  rcases (show k = 0 ∨ k = 1 ∨ k = 2 ∨ (k < 0 ∨ 2 < k) by omega) with h | h | h | h
  · exact unwritable_sto h
  · exact unwritable_fix h
  · exact unwritable_dyn h hn1 hn2 R1 R2
  · exact unwritable_no h
end

theorem upto_L {n : Nat} {f : Nat → Int} (h : ∀ i, i < n → 0 ≤ f i ∧ f i ≤ 15) : upto n f = ofN (L n f) := by
  refine List.ext_getElem? (fun i => ?_)
  by_cases hi : i < n
  · rw [upto_get f hi, at_get (l := ofN (L n f)) (by rw [ofN_length, L_length]; exact hi), ofN_at]
    unfold ix
    rw [← L_eq h hi]
  · rw [List.getElem?_eq_none (by rw [upto_length]; omega), List.getElem?_eq_none (by rw [ofN_length, L_length]; omega)]
def S2 (a b : Option Addr) : Nat → Option Addr | 0 => a | _ => b
def N2 (a b : Nat) : Nat → Nat | 0 => a | _ => b
def F2 (f g : Nat → Int) : Nat → Nat → Int | 0 => f | _ => g
theorem cat2 (a b : Nat) (f g : Nat → Int) : cat (N2 a b) (F2 f g) 2 = upto a f ++ upto b g := by
  show ([] ++ upto a f) ++ upto b g = _
  rw [List.nil_append]
theorem cat_c4 : cat (N2 16 3) (F2 (fun _ => 4) (fun _ => 0)) 2 = ofN C4 := by
  rw [cat2, upto_const, upto_const]; rfl
/-- Two lists in memory, as slices.Concat takes them. -/
theorem lists2 {w : World} {A B : Option Addr} {n m c d : Nat} {f g : Nat → Int} (h1 : row w A n f) (h2 : row w B m g) :
    lists (w.alloc (.cells #[.slice A n c, .slice B m d] 31)) w.heap.size 2 (S2 A B) (N2 n m) (N2 c d) (F2 f g) := by
  have kb := Blk.fresh w 31 #[.slice A n c, .slice B m d]
  refine ⟨by rw [size_alloc]; omega, fun i hi => ?_⟩
  rw [kb.cell]
  rcases (show i = 0 ∨ i = 1 by omega) with rfl | rfl
  · exact ⟨rfl, h1.below (below_alloc _ _)⟩
  · exact ⟨rfl, h2.below (below_alloc _ _)⟩
theorem ints_row {w : World} {base : Nat} {v : Value} {l : List Nat} (h : ints w base 3 v (ofN l)) : ∃ A c, v = .slice A l.length c ∧ row w A l.length (ix l) := by
  obtain ⟨A, c, e⟩ := ints.form h
  rw [ofN_length] at e
  subst e
  have := ints.row h
  rw [ofN_length] at this
  exact ⟨A, c, rfl, this.congr (fun i _ => ofN_at l i)⟩
theorem take_snoc {α : Type} {l : List α} {k : Nat} {x : α} (h : l[k]? = some x) : l.take (k + 1) = l.take k ++ [x] := by
  rw [List.take_add_one, h]; rfl
theorem nth_get {l : List Nat} {k : Nat} (h : k < l.length) : l[k]? = some (nth l k) := by
  unfold nth; rw [List.getD_eq_getElem?_getD, List.getElem?_eq_getElem h]; rfl
/-- A row of the call's own, made when the writer was there, stays under it. -/
theorem ints_stay {base : Nat} {w0 w1 x : World} {g : Nat} {v v6 : Value} {bs : List UInt8} {z : Nat} {l : List Int} (t : wt base w0 g v bs z) (h : ints w1 w0.heap.size 3 v6 l) (o : Only (own g v) w1 x) : ints x w0.heap.size 3 v6 l :=
  h.only o (fun i hi e => by
    have hl := (h.lo i hi).1
    rcases e with e | e
    · have : i < w0.heap.size := by rw [e]; exact Blk.lt t.b
      omega
    · have := (t.o.lt i e).2
      omega)
end Go.Proofs.YtgbdecnaamlekaaDoor.Ki
namespace Go.Proofs.YtgbdecnaamlekaaDoor.Kj
open Go.RowKit Go.Proofs.YtgbdecnaamlekaaDoor.Vm Go.Proofs.YtgbdecnaamlekaaDoor.Vo Go.Proofs.YtgbdecnaamlekaaDoor.Bm Go.Proofs.YtgbdecnaamlekaaDoor.Bt Go.Proofs.YtgbdecnaamlekaaDoor.Bw Go.Proofs.YtgbdecnaamlekaaDoor.Bp Go.Proofs.YtgbdecnaamlekaaDoor.Bs Go.Proofs.YtgbdecnaamlekaaDoor.Bv Go.Proofs.YtgbdecnaamlekaaDoor.Bx Go.Proofs.YtgbdecnaamlekaaDoor.Na Go.Proofs.YtgbdecnaamlekaaDoor.Nf Go.Proofs.YtgbdecnaamlekaaDoor.Nm Go.Proofs.YtgbdecnaamlekaaDoor.Ni Go.Proofs.YtgbdecnaamlekaaDoor.Ne Go.Proofs.YtgbdecnaamlekaaDoor.Nh Go.Proofs.YtgbdecnaamlekaaDoor.Pm Go.Proofs.YtgbdecnaamlekaaDoor.Pw Go.Proofs.YtgbdecnaamlekaaDoor.Pi Go.Proofs.YtgbdecnaamlekaaDoor.Ko Go.Proofs.YtgbdecnaamlekaaDoor.Ka Go.Proofs.YtgbdecnaamlekaaDoor.Kb Go.Proofs.YtgbdecnaamlekaaDoor.Km Go.Proofs.YtgbdecnaamlekaaDoor.Kw Go.Proofs.YtgbdecnaamlekaaDoor.Ks Go.Proofs.YtgbdecnaamlekaaDoor.Kc Go.Proofs.YtgbdecnaamlekaaDoor.Kd Go.Proofs.YtgbdecnaamlekaaDoor.Ke Go.Proofs.YtgbdecnaamlekaaDoor.Ky Go.Proofs.YtgbdecnaamlekaaDoor.Kx Go.Proofs.YtgbdecnaamlekaaDoor.Ku Go.Proofs.YtgbdecnaamlekaaDoor.Kh Go.Proofs.YtgbdecnaamlekaaDoor.Ki

section
variable {base : Nat} {U w : World} {g N z : Nat} {u v : Value} {l : List (Nat × Nat)} {A1 A2 : Option Addr} {n1 c1 n2 c2 : Nat} {f1 f2 : Nat → Int}
set_option maxHeartbeats 2000000 in
set_option maxRecDepth 100000 in
theorem writeLengths_any (h : gone base U g u N z w v l) (hz : z + bl l ≤ 562949953410000) (HR : Hid (∀ x, Only (own g v) w x → row x A1 n1 f1 ∧ row x A2 n2 f2 ∧ ordM x))
    (h1 : 257 ≤ n1) (h1' : n1 ≤ 286) (h2 : 1 ≤ n2) (h2' : n2 ≤ 30) (hf1 : ∀ i, i < n1 → 0 ≤ f1 i ∧ f1 i ≤ 15) (hf2 : ∀ i, i < n2 → 0 ≤ f2 i ∧ f2 i ≤ 15) :
    Calls Tryd.prog 44 #[.pointer (some ⟨g, 0, none⟩), .slice A1 n1 c1, .slice A2 n2 c2] w fun e w' => e = .returned (.tuple #[]) ∧ ∃ v', gone base U g u N z w' v' (l ++ outD (L n1 f1) (L n2 f2)) := by
  obtain ⟨X, hX⟩ : ∃ X, X = L n1 f1 ++ L n2 f2 := ⟨_, rfl⟩
  have HXL : Hid (X.length = n1 + n2) := Lib.hid (by rw [hX, List.length_append, L_length, L_length])
  have HX16 : Hid (∀ x ∈ X, x < 16) := Lib.hid (by
    intro x hx
    rw [hX] at hx
    rcases List.mem_append.1 hx with hx | hx
    · exact L_mem hf1 x hx
    · exact L_mem hf2 x hx)
  have HXC : Hid (cat (N2 n1 n2) (F2 f1 f2) 2 = ofN X) := Lib.hid (by rw [cat2, upto_L hf1, upto_L hf2, hX, ofN_append])
  have HXO : Hid (outD (L n1 f1) (L n2 f2) = [(n1 - 257, 5), (n2 - 1, 5), (15, 4)] ++ ords.map (fun o => (c4 o, 3)) ++ X.map (fun x => (turnN x 4, 4))) := Lib.hid (by
    unfold outD; rw [L_length, L_length, hX])
  rw [HXO.out]
  obtain ⟨bs, t0, e0⟩ := h.t
  have HT0 := Lib.hid t0
  have HE0 := Lib.hid e0
  have H := Lib.hid h
  obtain ⟨Z, hZ⟩ : ∃ Z, Z = z + bl l := ⟨_, rfl⟩
  have HZ := Lib.hid hZ
  rw [← hZ] at HT0 hz
  clear hX hf1 hf2 t0 e0 h hZ
  go_enter Tryd.func44, Tryd.ntmps44
  go_wp2_with fail
  refine (equal_any 4 (n := 16) 16 rfl (by omega) (by omega) w).mono ?_
  rintro e w1 ⟨g1, rfl, k1, p1, b1⟩
  have K1 := Lib.hid k1; have B1 := Lib.hid b1; clear k1 b1 p1
  go_wp2_with fail
  refine (equal_any 0 (n := 3) 3 rfl (by omega) (by omega) w1).mono ?_
  rintro e w2 ⟨g2, rfl, k2, p2, b2⟩
  have K2 := Lib.hid k2; have B2 := Lib.hid b2; clear k2 b2 p2
  go_wp2_with fail
  have HL2 := Lib.hid (lists2 (c := 16) (d := 3) (row_of_blk (K1.out.below B2.out)) (row_of_blk K2.out))
  have B3 : Hid (Below w2.heap.size w2 (w2.alloc (.cells #[.slice (some ⟨g1, 0, none⟩) 16 16, .slice (some ⟨g2, 0, none⟩) 3 3] 31))) := Lib.hid (below_alloc _ _)
  obtain ⟨w3, hw3⟩ : ∃ w3, w3 = w2.alloc (.cells #[.slice (some ⟨g1, 0, none⟩) 16 16, .slice (some ⟨g2, 0, none⟩) 3 3] 31) := ⟨_, rfl⟩
  rw [← hw3] at HL2 B3 ⊢
  clear hw3
  have HB3 : Hid (Below w.heap.size w w3) := Lib.hid (grows (grows B1.out B2.out) B3.out)
  refine (Concat_any (k := 2) (by omega) (by rw [cat_c4, ofN_length]; decide) (by rw [cat_c4, ofN_length]; decide) HL2).mono ?_
  rintro e w6 ⟨v6, rfl, k6, b6⟩
  rw [cat_c4] at k6
  obtain ⟨A6, c6, hv6, _⟩ := ints_row k6
  have hv6' : v6 = .slice A6 19 c6 := hv6
  subst hv6'
  have T3 : Hid (wt base w3 g v bs Z) := Lib.hid (wt_below HT0.out HB3.out)
  have HB6 : Hid (Below w.heap.size w w6) := Lib.hid (grows HB3.out b6)
  -- the code's row stays
  have R6 : Hid (∀ x, Only (own g v) w6 x → row x A6 19 c4') := Lib.hid (fun x o => by
    have h := ints_row (ints_stay T3.out k6 o)
    obtain ⟨A, c, e, r⟩ := h
    injection e with e _ _
    subst e
    exact r.congr (fun i hi => by unfold ix c4'; rw [C4_nth i hi]))
  have HR6 : Hid (∀ x, Only (own g v) w6 x → row x A1 n1 f1 ∧ row x A2 n2 f2 ∧ ordM x) := Lib.hid (fun x o => HR.out x ((Only.of_below HB6.out).trans o))
  have G6 : Hid (gone base w6 g v (num bs) Z w6 v []) := Lib.hid (gone.start (wt_below T3.out b6) (Nat.le_trans H.out.size HB6.out.size))
  have H6 : Hid (gone base U g u N z w6 v l) := Lib.hid (H.out.below HB6.out)
  clear HL2 K1 K2 B1 B2 B3 k6 b6 hv6 T3 HR HT0 HB3 H HB6
  go_wp2_with fail
  refine (G6.out.put (y := n1 - 257) (m := 5) (by omega) rfl (by omega) (by omega) (by simp [bl]; omega)).mono ?_
  rintro e w7 ⟨rfl, v7, g7⟩
  have G7 := Lib.hid g7; clear g7
  go_wp2_with fail
  refine (G7.out.put (y := n2 - 1) (m := 5) (by omega) rfl (by omega) (by omega) (by simp [bl]; omega)).mono ?_
  rintro e w8 ⟨rfl, v8, g8⟩
  have G8 := Lib.hid g8; clear g8
  go_wp2_with fail
  refine (G8.out.put (y := 15) (m := 4) (by omega) rfl (by omega) (by omega) (by simp [bl]; omega)).mono ?_
  rintro e w9 ⟨rfl, v9, g9⟩
  have G9 : Hid (gone base w6 g v (num bs) Z w9 v9 [(n1 - 257, 5), (n2 - 1, 5), (15, 4)]) := Lib.hid g9
  clear g9 G7 G8
  go_wp2_with fail
  go_loopw [29, 7] (fun s29 _ wr => ∃ (k : Nat) (v' : Value), s29 = .int .i64 (k : Int) ∧ k ≤ 19 ∧ Hid (gone base w6 g v (num bs) Z wr v' ([(n1 - 257, 5), (n2 - 1, 5), (15, 4)] ++ (ords.take k).map (fun o => (c4 o, 3))))) (fun s29 _ _ => 19 - (intOf s29).toNat)
  case atStart => exact ⟨0, v9, rfl, by omega, Lib.hid (by simpa using G9.out)⟩
  case round =>
    obtain ⟨k, v10, rfl, hk, G10⟩ := hrel
    by_cases hk19 : k < 19
    · obtain ⟨o, ho⟩ : ∃ o, o = ord k := ⟨_, rfl⟩
      have ho19 : o < 19 := by rw [ho]; exact ord_lt k hk19
      have HO := Lib.hid ho
      have o1 := (HR6.out wr G10.out.o).2.2.2 k hk19
      rw [← ho] at o1
      obtain ⟨b6, off6, hA6, hb6, o2⟩ := R6.out wr G10.out.o o ho19
      subst hA6
      obtain ⟨q, hq⟩ : ∃ q, q = c4 o := ⟨_, rfl⟩
      have hq8 : q < 8 := by rw [hq]; unfold c4; split <;> omega
      have HQ := Lib.hid hq
      rw [show c4' o = (q : Int) by rw [hq]; rfl] at o2
      have hbl : Hid (bl ([(n1 - 257, 5), (n2 - 1, 5), (15, 4)] ++ (ords.take k).map (fun o => (c4 o, 3))) ≤ 100) := Lib.hid (by
        rw [bl_append, bl_map, List.length_take, ords_length]; simp only [bl]; omega)
      clear ho hq
      go_wp2_with fail
      refine (G10.out.put (y := q) (m := 3) rfl rfl (by omega) (by omega) (by have := hbl.out; omega)).mono ?_
      rintro e w11 ⟨rfl, v11, g11⟩
      have G11 := Lib.hid g11; clear g11
      go_wp2
      go_roundw
      case rel =>
        refine ⟨k + 1, v11, by go_num, by omega, Lib.hid ?_⟩
        have e : ords[k]? = some o := by rw [HO.out]; exact nth_get hk19
        have h := G11.out
        rw [take_snoc e, List.map_append, ← List.append_assoc]
        rw [HQ.out] at h
        exact h
      case measure => simp [intOf]; omega
    · obtain rfl : k = 19 := by omega
      have G11 : Hid (gone base w6 g v (num bs) Z wr v10 ([(n1 - 257, 5), (n2 - 1, 5), (15, 4)] ++ ords.map (fun o => (c4 o, 3)))) := Lib.hid (by
        have h := G10.out
        rw [List.take_of_length_le (by rw [ords_length]; omega)] at h
        exact h)
      clear G10
      go_wp2_with fail
      obtain ⟨r1, r2, _⟩ := HR6.out wr G11.out.o
      have HL2 := Lib.hid (lists2 (c := c1) (d := c2) r1 r2)
      have B3 : Hid (Below wr.heap.size wr (wr.alloc (.cells #[.slice A1 n1 c1, .slice A2 n2 c2] 31))) := Lib.hid (below_alloc _ _)
      obtain ⟨w12, hw12⟩ : ∃ w3, w3 = wr.alloc (.cells #[.slice A1 n1 c1, .slice A2 n2 c2] 31) := ⟨_, rfl⟩
      rw [← hw12] at HL2 B3 ⊢
      clear hw12 r1 r2
      refine (Concat_any (k := 2) (by omega) (by rw [HXC.out, ofN_length, HXL.out]; omega) (by rw [HXC.out, ofN_length, HXL.out]; omega) HL2).mono ?_
      rintro e w13 ⟨v13, rfl, k13, b13⟩
      rw [HXC.out] at k13
      obtain ⟨A13, c13, hv13, _⟩ := ints_row k13
      rw [HXL.out] at hv13
      subst hv13
      have G12 : Hid (gone base w6 g v (num bs) Z w12 v10 ([(n1 - 257, 5), (n2 - 1, 5), (15, 4)] ++ ords.map (fun o => (c4 o, 3)))) := Lib.hid (G11.out.below B3.out)
      have G13 : Hid (gone base w6 g v (num bs) Z w13 v10 ([(n1 - 257, 5), (n2 - 1, 5), (15, 4)] ++ ords.map (fun o => (c4 o, 3)))) := Lib.hid (G12.out.below b13)
      obtain ⟨bs12, t12, e12⟩ := G12.out.t
      have R13 : Hid (∀ x, Only (own g v10) w13 x → row x A13 (n1 + n2) (ix X)) := Lib.hid (fun x o => by
        obtain ⟨A, c, e, r⟩ := ints_row (ints_stay t12 k13 o)
        injection e with e _ _
        subst e
        rw [HXL.out] at r
        exact r)
      have HBL : Hid (bl ([(n1 - 257, 5), (n2 - 1, 5), (15, 4)] ++ ords.map (fun o => (c4 o, 3))) = 71) := Lib.hid (by rw [bl_append, bl_map, ords_length]; simp only [bl])
      have G14 : Hid (gone base w13 g v10 (num bs12) (Z + 71) w13 v10 []) := Lib.hid (by
        rw [HBL.out] at t12
        exact gone.start (wt_below t12 b13) G13.out.size)
      have E12 := Lib.hid e12
      clear HL2 B3 k13 b13 G11 G12 t12 e12 G9 G6
      go_wp2_with fail
      go_loopw [46, 9] (fun s46 _ wr => ∃ (k : Nat) (v' : Value), s46 = .int .i64 (k : Int) ∧ k ≤ n1 + n2 ∧ Hid (gone base w13 g v10 (num bs12) (Z + 71) wr v' ((X.take k).map (fun x => (turnN x 4, 4))))) (fun s46 _ _ => (n1 + n2) - (intOf s46).toNat)
      case atStart => exact ⟨0, v10, rfl, by omega, Lib.hid (by simpa using G14.out)⟩
      case round =>
        obtain ⟨k, v15, rfl, hk, G15⟩ := hrel
        by_cases hkn : k < n1 + n2
        · have hkn' : (k : Int) < (n1 : Int) + (n2 : Int) := by omega
          have hkn'' : (k : Int) < ((n1 + n2 : Nat) : Int) := by omega
          obtain ⟨x, hx⟩ : ∃ x, x = nth X k := ⟨_, rfl⟩
          have hxk : X[k]? = some x := by rw [hx]; exact nth_get (by rw [HXL.out]; exact hkn)
          have hx16 : x < 16 := HX16.out x (List.mem_of_getElem? hxk)
          obtain ⟨b13, off13, hA13, hb13, o1⟩ := R13.out wr G15.out.o k hkn
          subst hA13
          rw [show ix X k = (x : Int) by rw [hx]; rfl] at o1
          have HXK := Lib.hid hxk
          have hbl : Hid (bl ((X.take k).map (fun x => (turnN x 4, 4))) ≤ 4 * 316) := Lib.hid (by
            rw [bl_map, List.length_take, HXL.out]; omega)
          clear hx hxk
          go_wp2_with fail
          refine (G15.out.code (x := x) rfl hx16 (by have := hbl.out; omega) (Lib.hid (fun y o => R6.out y (G13.out.keep (G15.out.keep o))))).mono ?_
          rintro e w16 ⟨rfl, v16, g16⟩
          have G16 := Lib.hid g16; clear g16
          go_wp2
          go_roundw
          case rel =>
            refine ⟨k + 1, v16, by go_num, by omega, Lib.hid ?_⟩
            have h := G16.out
            rw [take_snoc HXK.out, List.map_append]
            exact h
          case measure => simp [intOf]; omega
        · obtain rfl : k = n1 + n2 := by omega
          have hkn' : ¬ ((n1 : Int) + (n2 : Int) < (n1 : Int) + (n2 : Int)) := by omega
          have G17 : Hid (gone base w13 g v10 (num bs12) (Z + 71) wr v15 (X.map (fun x => (turnN x 4, 4)))) := Lib.hid (by
            have h := G15.out
            rw [List.take_of_length_le (by rw [HXL.out]; omega)] at h
            exact h)
          clear G15
          go_wp2
          go_end0
          refine ⟨rfl, v15, ?_⟩
          have h := G13.out.trans G17.out E12.out (by rw [HBL.out])
          exact H6.out.trans h HE0.out HZ.out
end
end Go.Proofs.YtgbdecnaamlekaaDoor.Kj
namespace Go.Proofs.YtgbdecnaamlekaaDoor.Kl
open Go.RowKit Go.Proofs.YtgbdecnaamlekaaDoor.Vm Go.Proofs.YtgbdecnaamlekaaDoor.Vo Go.Proofs.YtgbdecnaamlekaaDoor.Bm Go.Proofs.YtgbdecnaamlekaaDoor.Bt Go.Proofs.YtgbdecnaamlekaaDoor.Bw Go.Proofs.YtgbdecnaamlekaaDoor.Bp Go.Proofs.YtgbdecnaamlekaaDoor.Bs Go.Proofs.YtgbdecnaamlekaaDoor.Bv Go.Proofs.YtgbdecnaamlekaaDoor.Bx Go.Proofs.YtgbdecnaamlekaaDoor.Na Go.Proofs.YtgbdecnaamlekaaDoor.Nf Go.Proofs.YtgbdecnaamlekaaDoor.Nm Go.Proofs.YtgbdecnaamlekaaDoor.Ni Go.Proofs.YtgbdecnaamlekaaDoor.Ne Go.Proofs.YtgbdecnaamlekaaDoor.Nh Go.Proofs.YtgbdecnaamlekaaDoor.Pm Go.Proofs.YtgbdecnaamlekaaDoor.Pw Go.Proofs.YtgbdecnaamlekaaDoor.Pi Go.Proofs.YtgbdecnaamlekaaDoor.Ko Go.Proofs.YtgbdecnaamlekaaDoor.Ka Go.Proofs.YtgbdecnaamlekaaDoor.Kb Go.Proofs.YtgbdecnaamlekaaDoor.Km Go.Proofs.YtgbdecnaamlekaaDoor.Kw Go.Proofs.YtgbdecnaamlekaaDoor.Ks Go.Proofs.YtgbdecnaamlekaaDoor.Kc Go.Proofs.YtgbdecnaamlekaaDoor.Kd Go.Proofs.YtgbdecnaamlekaaDoor.Ke Go.Proofs.YtgbdecnaamlekaaDoor.Ky Go.Proofs.YtgbdecnaamlekaaDoor.Kx Go.Proofs.YtgbdecnaamlekaaDoor.Ku Go.Proofs.YtgbdecnaamlekaaDoor.Kh Go.Proofs.YtgbdecnaamlekaaDoor.Ki Go.Proofs.YtgbdecnaamlekaaDoor.Kj

theorem _root_.Go.Proofs.YtgbdecnaamlekaaDoor.Kh.gone.congr {base : Nat} {U w : World} {g N z : Nat} {u v : Value} {l l' : List (Nat × Nat)} (h : gone base U g u N z w v l) (e1 : bl l = bl l') (e2 : bn l = bn l') : gone base U g u N z w v l' := by
  obtain ⟨bs, t, e⟩ := h.t
  exact ⟨⟨bs, by rw [← e1]; exact t, by rw [← e2]; exact e⟩, h.o, h.a, h.b⟩
/-- What Write writes. -/
def wrO (b : Bool) (k z : Int) (n1 : Nat) (f1 : Nat → Int) (n2 : Nat) (f2 : Nat → Int) (z0 : Nat) : List (Nat × Nat) := if wrM k z n1 f1 n2 f2 = 0 then outM ⟨b, k.toNat, z.toNat, L n1 f1, L n2 f2⟩ z0 else []

section
variable {base : Nat} {w : World} {g z0 : Nat} {v : Value} {bs : List UInt8} {b : Bool} {k z : Int} {A1 A2 : Option Addr} {n1 c1 n2 c2 : Nat} {f1 f2 : Nat → Int}
set_option maxHeartbeats 2000000 in
set_option maxRecDepth 100000 in
theorem Write_any (HW : Hid (wt base w g v bs z0)) (hb : base ≤ w.heap.size) (hz : z0 ≤ 281474976710656) (hn1 : n1 ≤ 9223372036854775807) (hn2 : n2 ≤ 9223372036854775807) (HR : Hid (∀ x, Only (own g v) w x → row x A1 n1 f1 ∧ row x A2 n2 f2 ∧ ordM x)) :
    Calls Tryd.prog 21 #[.pointer (some ⟨g, 0, none⟩), hv b k z (.slice A1 n1 c1) (.slice A2 n2 c2)] w fun e w' => e = .returned (.int .i64 (wrM k z n1 f1 n2 f2)) ∧ ∃ v', gone base w g v (num bs) z0 w' v' (wrO b k z n1 f1 n2 f2 z0) := by
  have b1 : Below w.heap.size w (w.alloc (.cells #[.bool b, .int .i64 k, .int .i64 z, .slice A1 n1 c1, .slice A2 n2 c2] 33)) := below_alloc _ _
  have k1 := Blk.fresh w 33 #[.bool b, .int .i64 k, .int .i64 z, .slice A1 n1 c1, .slice A2 n2 c2]
  obtain ⟨w1, hw1⟩ : ∃ w1, w1 = w.alloc (.cells #[.bool b, .int .i64 k, .int .i64 z, .slice A1 n1 c1, .slice A2 n2 c2] 33) := ⟨_, rfl⟩
  rw [← hw1] at b1 k1
  have B1 := Lib.hid b1
  have HK : Hid (∀ x vx lx, gone base w1 g v (num bs) z0 x vx lx → Blk x w.heap.size 33 #[.bool b, .int .i64 k, .int .i64 z, .slice A1 n1 c1, .slice A2 n2 c2]) := Lib.hid (fun x vx lx h => by
    refine k1.only h.o (fun e => ?_)
    rcases e with e | e
    · have := Blk.lt HW.out.b; omega
    · have := (HW.out.o.lt _ e).2; omega)
  have HR1 : Hid (∀ x vx lx, gone base w1 g v (num bs) z0 x vx lx → ∀ y, Only (own g vx) x y → row y A1 n1 f1 ∧ row y A2 n2 f2 ∧ ordM y) := Lib.hid (fun x vx lx h y o => HR.out y ((Only.of_below B1.out).trans (h.keep o)))
  have G1 : Hid (gone base w1 g v (num bs) z0 w1 v []) := Lib.hid (gone.start (wt_below HW.out b1) (Nat.le_trans hb b1.size))
  have HE : Hid (∀ x vx lx lx', gone base w1 g v (num bs) z0 x vx lx → bl lx = bl lx' → bn lx = bn lx' → gone base w g v (num bs) z0 x vx lx') := Lib.hid (fun x vx lx lx' h e1 e2 => by
    have h0 := (gone.start HW.out hb).below B1.out
    have := h0.trans (h.congr e1 e2) (by simp [bn]) (by simp [bl])
    simpa using this)
  have HO : Hid (∀ x vx lx, gone base w1 g v (num bs) z0 x vx lx → bl lx = bl (wrO b k z n1 f1 n2 f2 z0) → bn lx = bn (wrO b k z n1 f1 n2 f2 z0) → ∃ v', gone base w g v (num bs) z0 x v' (wrO b k z n1 f1 n2 f2 z0)) := Lib.hid (fun x vx lx h e1 e2 => ⟨vx, HE.out x vx lx _ h e1 e2⟩)
  obtain ⟨W, hWO⟩ : ∃ W, W = wrO b k z n1 f1 n2 f2 z0 := ⟨_, rfl⟩
  have HWO := Lib.hid hWO
  rw [← hWO] at HO ⊢
  obtain ⟨er, her⟩ : ∃ er, er = wrM k z n1 f1 n2 f2 := ⟨_, rfl⟩
  have HER := Lib.hid her
  rw [← her]
  have HU : Hid (∀ x, row x A1 n1 f1 → row x A2 n2 f2 → Calls Tryd.prog 41 #[hv b k z (.slice A1 n1 c1) (.slice A2 n2 c2)] x fun e w' => e = .returned (.int .i64 er) ∧ Below x.heap.size x w') := Lib.hid (fun x r1 r2 => by
    rw [her]; exact unwritable_any hn1 hn2 (Lib.hid r1) (Lib.hid r2))
  clear k1 b1 hWO her HR HW HE hn1 hn2 hb
  go_enter Tryd.func21, Tryd.ntmps21
  go_wp2_with fail
  rw [← hw1]
  clear hw1
  refine (G1.out.put (y := 0) (m := 0) rfl rfl (by omega) (by omega) (by simp [bl]; omega)).mono ?_
  rintro e w2 ⟨rfl, v2, g2⟩
  have G2 : Hid (gone base w1 g v (num bs) z0 w2 v2 [(0, 0)]) := Lib.hid g2
  have K2 := Lib.hid (HK.out _ _ _ g2)
  have HR2 := Lib.hid (HR1.out _ _ _ g2 w2 (Only.refl _ _))
  clear g2 G1
  go_wp2_with (refine wpList_load_row rfl 33 _ rfl w.heap.size rfl _ _ _ _ K2.out Tryd.underlying33 rfl sizeH ?_)
  refine (HU.out w2 HR2.out.1 HR2.out.2.1).mono ?_
  rintro e w3 ⟨rfl, b3⟩
  have G3 : Hid (gone base w1 g v (num bs) z0 w3 v2 [(0, 0)]) := Lib.hid (G2.out.below b3)
  clear b3 G2 K2 HR2
  by_cases he : er = 0
  · have hok := wr_ok (kind := k) (size := z) (n := n1) (f := f1) (m := n2) (g := f2) b (HER.out.symm.trans he)
    obtain ⟨_, hk0, hk2, hsz, hdy⟩ := hok
    have HD := Lib.hid hdy
    have HSZ := Lib.hid hsz
    subst he
    have HWO2 : Hid (W = outM ⟨b, k.toNat, z.toNat, L n1 f1, L n2 f2⟩ z0) := Lib.hid (by rw [HWO.out, wrO, if_pos HER.out.symm])
    clear hdy hsz
    have k3 := HK.out _ _ _ G3.out
    have d0 := k3.cell 0
    clear k3
    go_wp2_with fail
    refine (bit_any b w3).mono ?_
    rintro e w' ⟨rfl, hw⟩
    rw [← hw]
    clear hw d0
    go_wp2_with fail
    refine (G3.out.put (y := b.toNat) (m := 1) rfl rfl (by cases b <;> decide) (by omega) (by simp [bl]; omega)).mono ?_
    rintro e w4 ⟨rfl, v4, g4⟩
    have G4 : Hid (gone base w1 g v (num bs) z0 w4 v4 [(0, 0), (b.toNat, 1)]) := Lib.hid g4
    have d1 := (HK.out _ _ _ g4).cell 1
    clear g4 G3
    rcases (show k = 0 ∨ k = 1 ∨ k = 2 by omega) with hk | hk | hk
    · subst hk
      go_wp2_with fail
      refine (G4.out.put (y := 0) (m := 2) rfl rfl (by omega) (by omega) (by simp [bl]; omega)).mono ?_
      rintro e w5 ⟨rfl, v5, g5⟩
      have G5 : Hid (gone base w1 g v (num bs) z0 w5 v5 [(0, 0), (b.toNat, 1), (0, 2)]) := Lib.hid g5
      clear d1
      have d1 := (HK.out _ _ _ g5).cell 1
      have d2 := (HK.out _ _ _ g5).cell 2
      obtain ⟨n, hn⟩ := Int.eq_ofNat_of_zero_le (HSZ.out (by simp)).1
      have hn16 : n ≤ 65535 := by have := (HSZ.out (by simp)).2; omega
      have HN := Lib.hid hn
      clear g5 G4 hn
      go_wp2_with fail
      refine (writeSize_any (n := n) HN.out hn16 G5.out (by simp [bl]; omega)).mono ?_
      rintro e w6 ⟨rfl, v6, g6⟩
      have G6 := Lib.hid g6
      clear d1 d2
      have d1 := (HK.out _ _ _ g6).cell 1
      clear g6
      go_wp2
      go_ret
      refine ⟨rfl, HO.out _ _ _ G6.out ?_ ?_⟩
      all_goals
        rw [HWO2.out, HN.out]
        unfold outM
        simp [bl, bn]
    · subst hk
      go_wp2_with fail
      refine (G4.out.put (y := 1) (m := 2) rfl rfl (by omega) (by omega) (by simp [bl]; omega)).mono ?_
      rintro e w5 ⟨rfl, v5, g5⟩
      have G5 : Hid (gone base w1 g v (num bs) z0 w5 v5 [(0, 0), (b.toNat, 1), (1, 2)]) := Lib.hid g5
      clear d1
      have d1 := (HK.out _ _ _ g5).cell 1
      clear g5 G4
      go_wp2
      go_ret
      refine ⟨rfl, HO.out _ _ _ G5.out ?_ ?_⟩
      all_goals
        rw [HWO2.out]
        unfold outM
        simp [bl, bn]
    · subst hk
      go_wp2_with fail
      refine (G4.out.put (y := 2) (m := 2) rfl rfl (by omega) (by omega) (by simp [bl]; omega)).mono ?_
      rintro e w5 ⟨rfl, v5, g5⟩
      have G5 : Hid (gone base w1 g v (num bs) z0 w5 v5 [(0, 0), (b.toNat, 1), (2, 2)]) := Lib.hid g5
      clear d1
      have d1 := (HK.out _ _ _ g5).cell 1
      have d3 := (HK.out _ _ _ g5).cell 3
      have d4 := (HK.out _ _ _ g5).cell 4
      obtain ⟨q1, q2, q3, q4, q5, q6⟩ := HD.out (by simp)
      have Q1 := Lib.hid q1
      have Q2 := Lib.hid q2
      clear g5 G4 q1 q2
      go_wp2_with fail
      refine (writeLengths_any G5.out (by simp [bl]; omega) (Lib.hid (HR1.out _ _ _ G5.out)) q3 q4 q5 q6 Q1.out Q2.out).mono ?_
      rintro e w6 ⟨rfl, v6, g6⟩
      have G6 := Lib.hid g6
      clear d1 d3 d4 g6
      go_wp2
      go_ret
      refine ⟨rfl, HO.out _ _ _ G6.out ?_ ?_⟩
      all_goals
        rw [HWO2.out]
        unfold outM
        simp [bl, bn]
  · have hne : (er != 0) = true := by simpa using he
    have HNE := Lib.hid he
    clear he
    go_wp2
    go_ret
    refine ⟨rfl, HO.out _ _ _ G3.out ?_ ?_⟩
    all_goals
      rw [HWO.out, wrO, if_neg (by rw [← HER.out]; exact HNE.out)]
      rfl
end
end Go.Proofs.YtgbdecnaamlekaaDoor.Kl
namespace Go.Proofs.YtgbdecnaamlekaaDoor.Kn
open Go.RowKit Go.Proofs.YtgbdecnaamlekaaDoor.Vm Go.Proofs.YtgbdecnaamlekaaDoor.Vo Go.Proofs.YtgbdecnaamlekaaDoor.Bm Go.Proofs.YtgbdecnaamlekaaDoor.Bt Go.Proofs.YtgbdecnaamlekaaDoor.Bw Go.Proofs.YtgbdecnaamlekaaDoor.Bp Go.Proofs.YtgbdecnaamlekaaDoor.Bs Go.Proofs.YtgbdecnaamlekaaDoor.Bv Go.Proofs.YtgbdecnaamlekaaDoor.Bx Go.Proofs.YtgbdecnaamlekaaDoor.Na Go.Proofs.YtgbdecnaamlekaaDoor.Nf Go.Proofs.YtgbdecnaamlekaaDoor.Nm Go.Proofs.YtgbdecnaamlekaaDoor.Ni Go.Proofs.YtgbdecnaamlekaaDoor.Ne Go.Proofs.YtgbdecnaamlekaaDoor.Nh Go.Proofs.YtgbdecnaamlekaaDoor.Pm Go.Proofs.YtgbdecnaamlekaaDoor.Pw Go.Proofs.YtgbdecnaamlekaaDoor.Pi Go.Proofs.YtgbdecnaamlekaaDoor.Ko Go.Proofs.YtgbdecnaamlekaaDoor.Ka Go.Proofs.YtgbdecnaamlekaaDoor.Kb Go.Proofs.YtgbdecnaamlekaaDoor.Km Go.Proofs.YtgbdecnaamlekaaDoor.Kw Go.Proofs.YtgbdecnaamlekaaDoor.Ks Go.Proofs.YtgbdecnaamlekaaDoor.Kc Go.Proofs.YtgbdecnaamlekaaDoor.Kd Go.Proofs.YtgbdecnaamlekaaDoor.Ke Go.Proofs.YtgbdecnaamlekaaDoor.Ky Go.Proofs.YtgbdecnaamlekaaDoor.Kx Go.Proofs.YtgbdecnaamlekaaDoor.Ku Go.Proofs.YtgbdecnaamlekaaDoor.Kh Go.Proofs.YtgbdecnaamlekaaDoor.Ki Go.Proofs.YtgbdecnaamlekaaDoor.Nk

theorem sizeR : (Tryd.prog.info? 36).map (·.size) = some 5 := by kernel_rfl
set_option maxRecDepth 100000 in
theorem taken_any (b : Bool) (k z : Int) (A1 : Option Addr) (n1 c1 : Nat) (A2 : Option Addr) (n2 c2 : Nat) (w : World) :
    Calls Tryd.prog 15 #[.agg #[.bool b, .int .i64 k, .int .i64 z, .slice A1 n1 c1, .slice A2 n2 c2]] w fun e w' => e = .returned (hv b k z (.slice A1 n1 c1) (.slice A2 n2 c2)) ∧ Below w.heap.size w w' := by
  go_enter Tryd.func15, Tryd.ntmps15
  go_wp2
  have hk := Blk.fresh (w.alloc (.cells #[.bool b, .int .i64 k, .int .i64 z, .slice A1 n1 c1, .slice A2 n2 c2] 33)) 36 #[.bool b, .int .i64 k, .int .i64 z, .slice A1 n1 c1, .slice A2 n2 c2]
  rw [size_alloc] at hk
  refine bodyPost_ret (v := .agg #[.bool b, .int .i64 k, .int .i64 z, .slice A1 n1 c1, .slice A2 n2 c2]) (results_cell_row rfl _ _ (w.heap.size + 1) 36 _ _ _ rfl hk Tryd.underlying36 rfl sizeR) rfl ?_
  exact ⟨rfl, grows (below_alloc _ _) (below_alloc _ _)⟩

set_option maxRecDepth 100000 in
theorem Same_any {b : Bool} {k z : Int} {A1 A2 B1 B2 : Option Addr} {n m c1 c2 d1 d2 : Nat} {f g : Nat → Int} {w : World} (hn : n ≤ 9223372036854775807) (hm : m ≤ 9223372036854775807) (R1 : Hid (row w A1 n f)) (R2 : Hid (row w A2 m g)) (R3 : Hid (row w B1 n f)) (R4 : Hid (row w B2 m g)) :
    Calls Tryd.prog 14 #[hv b k z (.slice A1 n c1) (.slice A2 m c2), hv b k z (.slice B1 n d1) (.slice B2 m d2)] w fun e w' => e = .returned (.bool true) ∧ Below w.heap.size w w' := by
  obtain ⟨w1, hw1⟩ : ∃ w1, w1 = (w.alloc (.cells #[.bool b, .int .i64 k, .int .i64 z, .slice A1 n c1, .slice A2 m c2] 36)).alloc (.cells #[.bool b, .int .i64 k, .int .i64 z, .slice B1 n d1, .slice B2 m d2] 36) := ⟨_, rfl⟩
  have b1 : Below w.heap.size w w1 := by rw [hw1]; exact grows (below_alloc _ _) (below_alloc _ _)
  have k1 : Blk w1 w.heap.size 36 #[.bool b, .int .i64 k, .int .i64 z, .slice A1 n c1, .slice A2 m c2] := by rw [hw1]; exact (Blk.fresh w _ _).below (below_alloc _ _)
  have k2 : Blk w1 (w.heap.size + 1) 36 #[.bool b, .int .i64 k, .int .i64 z, .slice B1 n d1, .slice B2 m d2] := by
    have := Blk.fresh (w.alloc (.cells #[.bool b, .int .i64 k, .int .i64 z, .slice A1 n c1, .slice A2 m c2] 36)) 36 #[.bool b, .int .i64 k, .int .i64 z, .slice B1 n d1, .slice B2 m d2]
    rw [size_alloc] at this
    rw [hw1]; exact this
  have H1 := Lib.hid (Ints_same (capA := c1) (capB := d1) hn (Lib.hid (R1.out.below b1)) (Lib.hid (R3.out.below b1)))
  have H2 := fun u (hu : Below w1.heap.size w1 u) => Lib.hid (Ints_same (capA := c2) (capB := d2) hm (Lib.hid ((R2.out.below b1).below hu)) (Lib.hid ((R4.out.below b1).below hu)))
  have B1' := Lib.hid b1
  have K1 := Lib.hid k1
  have K2 := Lib.hid k2
  clear R1 R2 R3 R4 b1 k1 k2 hn hm
  go_enter Tryd.func14, Tryd.ntmps14
  go_wp2_with fail
  rw [← hw1]
  clear hw1
  refine H1.out.mono ?_
  rintro e w2 ⟨rfl, b2⟩
  have q1 := (K1.out.below b2).cell 4
  have q2 := (K2.out.below b2).cell 4
  have H3 := H2 w2 b2
  have B2' := Lib.hid b2
  clear b2 H2
  go_wp2_with fail
  refine H3.out.mono ?_
  rintro e w3 ⟨rfl, b3⟩
  have B3 := Lib.hid b3
  clear b3 q1 q2
  go_wp2
  go_ret
  exact ⟨rfl, grows (grows B1'.out B2'.out) B3.out⟩

/-- A head that was read can be written. -/
theorem wr_read {h : Hd} (ok : okH h) {n m : Nat} (hn : n = h.lits.length) (hm : m = h.dists.length) : wrM (h.kind : Int) (h.size : Int) n (ix h.lits) m (ix h.dists) = 0 := by
  subst hn; subst hm
  have h1 := ok.k
  have h2 := ok.s
  unfold wrM
  rw [if_neg (by omega)]
  by_cases h0 : (h.kind : Int) = 2
  · obtain ⟨a1, a2, a3, a4, _, a6⟩ := ok.l (by omega)
    rw [if_pos h0, if_neg (by omega)]
    exact a6
  · rw [if_neg h0]
theorem head_len (N M a : Nat) : (headM N M a).2.1.lits.length ≤ 288 ∧ (headM N M a).2.1.dists.length ≤ 32 := by
  have hk := peekN_lt N (a + 1) 2
  by_cases c1 : M - a < 3
  · rw [head_short c1]; exact ⟨by simp [Hd.zero], by simp [Hd.zero]⟩
  rcases (show peekN N (a + 1) 2 = 0 ∨ peekN N (a + 1) 2 = 1 ∨ peekN N (a + 1) 2 = 2 ∨ peekN N (a + 1) 2 = 3 by omega) with k | k | k | k
  · by_cases e : (stoM N M (a + 3)).1 = 0
    · rw [head_sto c1 k e]; exact ⟨by simp, by simp⟩
    · rw [head_sto_no c1 k e]; exact ⟨by simp [Hd.zero], by simp [Hd.zero]⟩
  · rw [head_fix c1 k]; exact ⟨by rw [fixL_length]; omega, by rw [fixD_length]; omega⟩
  · by_cases e : (dynM N M (a + 3)).1 = 0
    · rw [head_dyn c1 k e]
      obtain ⟨f1, f2, f3, f4, _⟩ := dyn_facts e
      exact ⟨by show (dynM N M (a + 3)).2.1.1.length ≤ 288; omega, by show (dynM N M (a + 3)).2.1.2.length ≤ 32; omega⟩
    · rw [head_dyn_no c1 k e]; exact ⟨by simp [Hd.zero], by simp [Hd.zero]⟩
  · rw [head_no c1 k]; exact ⟨by simp [Hd.zero], by simp [Hd.zero]⟩
theorem isH.parts {w : World} {b : Bool} {k z : Int} {A1 A2 : Option Addr} {n1 c1 n2 c2 : Nat} {h : Hd} (i : isH w (hv b k z (.slice A1 n1 c1) (.slice A2 n2 c2)) h) : b = h.fin ∧ k = h.kind ∧ z = h.size ∧ n1 = h.lits.length ∧ n2 = h.dists.length ∧ row w A1 n1 (ix h.lits) ∧ row w A2 n2 (ix h.dists) := by
  obtain ⟨v1, v2, ev, l1, l2⟩ := i
  injection ev with ev
  injection ev with ev
  simp only [List.cons.injEq, Value.bool.injEq, Value.int.injEq, and_true, true_and] at ev
  obtain ⟨e1, e2, e3, e4, e5⟩ := ev
  subst e4 e5
  obtain ⟨m1, r1⟩ := l1.row
  obtain ⟨m2, r2⟩ := l2.row
  exact ⟨e1, e2, e3, m1, m2, r1, r2⟩

/-- What only a new writer writes leaves what was there. -/
theorem past {w w1 x : World} {S : Nat → Prop} (b : Below w.heap.size w w1) (hS : ∀ i, S i → w.heap.size ≤ i) (o : Only S w1 x) : Below w.heap.size w x := o.below b b.size hS
end Go.Proofs.YtgbdecnaamlekaaDoor.Kn
namespace Go.Proofs.YtgbdecnaamlekaaDoor.Ma
open Go.RowKit Go.Proofs.YtgbdecnaamlekaaDoor.Vm Go.Proofs.YtgbdecnaamlekaaDoor.Vo Go.Proofs.YtgbdecnaamlekaaDoor.Bm Go.Proofs.YtgbdecnaamlekaaDoor.Bt Go.Proofs.YtgbdecnaamlekaaDoor.Bw Go.Proofs.YtgbdecnaamlekaaDoor.Bp Go.Proofs.YtgbdecnaamlekaaDoor.Bs Go.Proofs.YtgbdecnaamlekaaDoor.Bv Go.Proofs.YtgbdecnaamlekaaDoor.Bx Go.Proofs.YtgbdecnaamlekaaDoor.Na Go.Proofs.YtgbdecnaamlekaaDoor.Nm Go.Proofs.YtgbdecnaamlekaaDoor.Ni Go.Proofs.YtgbdecnaamlekaaDoor.Ne Go.Proofs.YtgbdecnaamlekaaDoor.Nh Go.Proofs.YtgbdecnaamlekaaDoor.Pm Go.Proofs.YtgbdecnaamlekaaDoor.Pw Go.Proofs.YtgbdecnaamlekaaDoor.Pi Go.Proofs.YtgbdecnaamlekaaDoor.Km Go.Proofs.YtgbdecnaamlekaaDoor.Kw Go.Proofs.YtgbdecnaamlekaaDoor.Kc Go.Proofs.YtgbdecnaamlekaaDoor.Be Go.Proofs.YtgbdecnaamlekaaDoor.Kh Go.Proofs.YtgbdecnaamlekaaDoor.Ki Go.Proofs.YtgbdecnaamlekaaDoor.Kl

/-- From world U on, where the reference's writer g held u, N in z bits, it has gone on by l. -/
structure rgone (base : Nat) (U : World) (g : Nat) (u : Value) (N z : Nat) (w : World) (v : Value) (l : List (Nat × Nat)) : Prop where
  t : ∃ bs, rw' base w g v bs ∧ bs.length = z + bl l ∧ bitN bs = N + bn l * 2 ^ z
  o : Only (own g u) U w
  a : later U u v
  b : base ≤ U.heap.size

section
variable {base : Nat} {U w w' : World} {g N z : Nat} {u v v' : Value} {l : List (Nat × Nat)} {bs : List UInt8}
theorem rgone.start (h : rw' base U g u bs) (hb : base ≤ U.heap.size) : rgone base U g u (bitN bs) bs.length U u [] :=
  ⟨⟨bs, h, rfl, by simp [bn]⟩, Only.refl _ _, .inl rfl, hb⟩
theorem rgone.below (h : rgone base U g u N z w v l) (k : Below w.heap.size w w') : rgone base U g u N z w' v l := by
  obtain ⟨bs, t, e, n⟩ := h.t
  exact ⟨⟨bs, rw_below t k, e, n⟩, h.o.trans (Only.of_below k), h.a, h.b⟩
theorem rgone.size (h : rgone base U g u N z w v l) : base ≤ w.heap.size := Nat.le_trans h.b h.o.size
theorem rgone.keep (h : rgone base U g u N z w v l) (o : Only (own g v) w w') : Only (own g u) U w' :=
  h.o.then o (fun i hi hlt => by
    rcases hi with hi | hi
    · exact .inl hi
    · rcases own_of (g := g) h.a i hi with h1 | h1
      · exact h1
      · omega)
theorem rgone.more {y m : Nat} (h : rgone base U g u N z w v l) (t : rw' base w' g v' bs) (hl : bs.length = z + bl l + m) (e : bitN bs = N + bn l * 2 ^ z + y * 2 ^ (z + bl l)) (o : Only (own g v) w w') (a : later w v v') : rgone base U g u N z w' v' (l ++ [(y, m)]) :=
  ⟨⟨bs, t, by rw [bl_snoc, ← Nat.add_assoc]; exact hl, by rw [e, on_put]⟩, h.keep o, later_trans h.a a h.o.size, h.b⟩
theorem rgone.trans {w1 : World} {v1 : Value} {l1 : List (Nat × Nat)} {N1 z1 : Nat} (h : rgone base U g u N z w1 v1 l1) (k : rgone base w1 g v1 N1 z1 w v l) (hN : N1 = N + bn l1 * 2 ^ z) (hz : z1 = z + bl l1) : rgone base U g u N z w v (l1 ++ l) := by
  subst hN; subst hz
  obtain ⟨bs, t, hl, e⟩ := k.t
  refine ⟨⟨bs, t, by rw [bl_append, ← Nat.add_assoc]; exact hl, ?_⟩, h.keep k.o, later_trans h.a k.a h.o.size, h.b⟩
  have e2 : bn l * 2 ^ (z + bl l1) = 2 ^ bl l1 * bn l * 2 ^ z := by rw [Nat.pow_add, Nat.mul_comm (2 ^ z), ← Nat.mul_assoc, Nat.mul_comm (bn l)]
  rw [e, bn_append, Nat.add_mul, ← Nat.add_assoc, e2]
theorem rgone.put {y m : Nat} {x n : Int} (hx : x = (y : Int)) (hn : n = (m : Int)) (hy : y < 2 ^ m) (hm : m ≤ 32) (h : rgone base U g u N z w v l) (hz : z + bl l ≤ 70368744177664) :
    Calls Tryd.prog 20 #[.pointer (some ⟨g, 0, none⟩), .int .i64 x, .int .i64 n] w fun e w' => e = .returned (.int .i64 0) ∧ ∃ v', rgone base U g u N z w' v' (l ++ [(y, m)]) := by
  subst hx; subst hn
  obtain ⟨bs, t, hl, e⟩ := h.t
  have hp := put_code hm hy
  refine (rPut_any base (y : Int) (m : Int) t h.size (by omega)).mono ?_
  rintro _ w' ⟨rfl, v', l', t', z', n', o', a'⟩
  have e1 : putZ bs.length (y : Int) (m : Int) = z + bl l + m := by unfold putZ; rw [if_pos hp, hl]; rfl
  have e2 : putN (bitN bs) bs.length (y : Int) (m : Int) = bitN bs + y * 2 ^ (z + bl l) := by unfold putN; rw [if_pos hp, hl]; rfl
  rw [e1] at z'
  rw [e2, e] at n'
  exact ⟨by rw [hp], v', h.more t' z' n' o' a'⟩
theorem rgone.code {y m : Nat} {x n : Int} (hx : x = (y : Int)) (hn : n = (m : Int)) (hy : y < 2 ^ m) (hm : m ≤ 32) (h : rgone base U g u N z w v l) (hz : z + bl l ≤ 70368744177664) :
    Calls Tryd.prog 48 #[.pointer (some ⟨g, 0, none⟩), .int .i64 x, .int .i64 n] w fun e w' => e = .returned (.int .i64 0) ∧ ∃ v', rgone base U g u N z w' v' (l ++ [(turnN y m, m)]) := by
  subst hx; subst hn
  obtain ⟨bs, t, hl, e⟩ := h.t
  have hp := put_code hm hy
  refine (rCode_any base (y : Int) (m : Int) t h.size (by omega)).mono ?_
  rintro _ w' ⟨rfl, v', l', t', z', n', o', a'⟩
  have e1 : putZ bs.length (y : Int) (m : Int) = z + bl l + m := by unfold putZ; rw [if_pos hp, hl]; rfl
  have e2 : codeN (bitN bs) bs.length (y : Int) (m : Int) = bitN bs + turnN y m * 2 ^ (z + bl l) := by unfold codeN; rw [if_pos hp, hl]; rfl
  rw [e1] at z'
  rw [e2, e] at n'
  exact ⟨by rw [hp], v', h.more t' z' n' o' a'⟩
theorem rgone.align (h : rgone base U g u N z w v l) (hz : z + bl l ≤ 70368744177664) :
    Calls Tryd.prog 46 #[.pointer (some ⟨g, 0, none⟩)] w fun e w' => e = .returned (.tuple #[]) ∧ ∃ v', rgone base U g u N z w' v' (l ++ [(0, padZ (z + bl l))]) := by
  obtain ⟨bs, t, hl, e⟩ := h.t
  refine (rwAlign_any base t h.size (by omega)).mono ?_
  rintro _ w' ⟨rfl, v', l', t', z', n', o', a'⟩
  have e1 : l'.length = z + bl l + padZ (z + bl l) := by rw [z', hl]; unfold padZ; omega
  exact ⟨rfl, v', h.more (y := 0) t' e1 (by rw [n', e, Nat.zero_mul, Nat.add_zero]) o' a'⟩
theorem rgone.congr {l' : List (Nat × Nat)} (h : rgone base U g u N z w v l) (e1 : bl l = bl l') (e2 : bn l = bn l') : rgone base U g u N z w v l' := by
  obtain ⟨bs, t, hl, e⟩ := h.t
  exact ⟨⟨bs, t, by rw [← e1]; exact hl, by rw [← e2]; exact e⟩, h.o, h.a, h.b⟩
end

set_option maxRecDepth 100000 in
/-- The reference's fits. -/
theorem rfits_any {w : World} {A1 A2 : Option Addr} {n1 c1 n2 c2 : Nat} {f1 f2 : Nat → Int} (h1 : 257 ≤ n1) (hn1 : n1 ≤ 9223372036854775807) (hn2 : n2 ≤ 9223372036854775807) (R1 : Hid (row w A1 n1 f1)) (R2 : Hid (row w A2 n2 f2)) :
    Calls Tryd.prog 45 #[.slice A1 n1 c1, .slice A2 n2 c2] w fun e w' => e = .returned (.int .i64 (fitsI n1 f1 n2 f2)) ∧ Below w.heap.size w w' := by
  obtain ⟨b, off, hA, _, hc⟩ := R1.out 256 (by omega)
  subst hA
  by_cases h0 : f1 256 = 0
  · have HS := Lib.hid (show fitsI n1 f1 n2 f2 = 21 by unfold fitsI; rw [if_pos h0])
    rw [h0] at hc
    clear h0
    go_enter Tryd.func45, Tryd.ntmps45
    go_wp2
    go_ret
    exact ⟨ret_i64 HS.out.symm, Below.refl _ _⟩
  · obtain ⟨x, hx⟩ : ∃ x, x = f1 256 := ⟨_, rfl⟩
    rw [← hx] at hc
    have hx0 : (x == 0) = false := by rw [hx]; simpa using h0
    have HF1 := Lib.hid (rFits_any (cap := c1) true hn1 R1)
    obtain ⟨y, hy⟩ : ∃ y, y = fit n1 f1 true := ⟨_, rfl⟩
    rw [← hy] at HF1
    by_cases hf : y = 0
    · have HS := Lib.hid (show fitsI n1 f1 n2 f2 = fit n2 f2 true by unfold fitsI; rw [if_neg h0, if_neg (by rw [← hy]; omega)])
      subst hf
      clear hy hx h0
      go_enter Tryd.func45, Tryd.ntmps45
      go_wp2_with fail
      refine HF1.out.mono ?_
      rintro e w1 ⟨rfl, b1⟩
      have B1 := Lib.hid b1
      clear b1
      go_wp2_with fail
      refine (rFits_any (cap := c2) true hn2 (Lib.hid (R2.out.below B1.out))).mono ?_
      rintro e w2 ⟨rfl, b2⟩
      have B2 := Lib.hid b2
      clear b2
      go_wp2
      go_ret
      exact ⟨ret_i64 HS.out.symm, grows B1.out B2.out⟩
    · have HS := Lib.hid (show fitsI n1 f1 n2 f2 = y by unfold fitsI; rw [if_neg h0, if_pos (by rw [← hy]; exact hf), hy])
      have hne : (y != 0) = true := by simpa using hf
      clear hy hx h0 hf
      go_enter Tryd.func45, Tryd.ntmps45
      go_wp2_with fail
      refine HF1.out.mono ?_
      rintro e w1 ⟨rfl, b1⟩
      have B1 := Lib.hid b1
      clear b1
      go_wp2
      go_ret
      exact ⟨ret_i64 HS.out.symm, B1.out⟩
theorem arr_ord : (#[.int .i64 16, .int .i64 17, .int .i64 18, .int .i64 0, .int .i64 8, .int .i64 7, .int .i64 9, .int .i64 6, .int .i64 10, .int .i64 5, .int .i64 11, .int .i64 4, .int .i64 12, .int .i64 3, .int .i64 13, .int .i64 2, .int .i64 14, .int .i64 1, .int .i64 15] : Array Value) = arr 19 (fun i => (ord i : Int)) := by rfl
theorem order_any (w : World) : Calls Tryd.prog 47 #[] w fun e w' => e = .returned (.slice (some ⟨w.heap.size, 0, none⟩) 19 19) ∧ Blk w' w.heap.size 3 (arr 19 (fun i => (ord i : Int))) ∧ Below w.heap.size w w' := by
  go_enter Tryd.func47, Tryd.ntmps47
  go_wp2
  go_ret
  refine ⟨rfl, ?_, below_alloc _ _⟩
  rw [← arr_ord]
  exact Blk.fresh _ _ _
end Go.Proofs.YtgbdecnaamlekaaDoor.Ma
namespace Go.Proofs.YtgbdecnaamlekaaDoor.Mb
open Go.RowKit Go.Proofs.YtgbdecnaamlekaaDoor.Vm Go.Proofs.YtgbdecnaamlekaaDoor.Vo Go.Proofs.YtgbdecnaamlekaaDoor.Bm Go.Proofs.YtgbdecnaamlekaaDoor.Bt Go.Proofs.YtgbdecnaamlekaaDoor.Bw Go.Proofs.YtgbdecnaamlekaaDoor.Bp Go.Proofs.YtgbdecnaamlekaaDoor.Bs Go.Proofs.YtgbdecnaamlekaaDoor.Bv Go.Proofs.YtgbdecnaamlekaaDoor.Bx Go.Proofs.YtgbdecnaamlekaaDoor.Na Go.Proofs.YtgbdecnaamlekaaDoor.Nf Go.Proofs.YtgbdecnaamlekaaDoor.Nm Go.Proofs.YtgbdecnaamlekaaDoor.Ni Go.Proofs.YtgbdecnaamlekaaDoor.Ne Go.Proofs.YtgbdecnaamlekaaDoor.Nh Go.Proofs.YtgbdecnaamlekaaDoor.Pm Go.Proofs.YtgbdecnaamlekaaDoor.Pw Go.Proofs.YtgbdecnaamlekaaDoor.Pi Go.Proofs.YtgbdecnaamlekaaDoor.Ko Go.Proofs.YtgbdecnaamlekaaDoor.Ka Go.Proofs.YtgbdecnaamlekaaDoor.Kb Go.Proofs.YtgbdecnaamlekaaDoor.Km Go.Proofs.YtgbdecnaamlekaaDoor.Kw Go.Proofs.YtgbdecnaamlekaaDoor.Ks Go.Proofs.YtgbdecnaamlekaaDoor.Kc Go.Proofs.YtgbdecnaamlekaaDoor.Kd Go.Proofs.YtgbdecnaamlekaaDoor.Ke Go.Proofs.YtgbdecnaamlekaaDoor.Ky Go.Proofs.YtgbdecnaamlekaaDoor.Kx Go.Proofs.YtgbdecnaamlekaaDoor.Ku Go.Proofs.YtgbdecnaamlekaaDoor.Kh Go.Proofs.YtgbdecnaamlekaaDoor.Be Go.Proofs.YtgbdecnaamlekaaDoor.Ki Go.Proofs.YtgbdecnaamlekaaDoor.Kl Go.Proofs.YtgbdecnaamlekaaDoor.Kn Go.Proofs.YtgbdecnaamlekaaDoor.Ma

section
variable {base : Nat} {w : World} {g z0 : Nat} {v : Value} {bs : List UInt8} {b : Bool} {k z : Int} {A1 A2 : Option Addr} {n1 c1 n2 c2 : Nat} {f1 f2 : Nat → Int}
set_option maxHeartbeats 2000000 in
set_option maxRecDepth 100000 in
theorem rWrite_no (h : k < 0 ∨ 2 < k ∨ (k = 0 ∧ z < 0) ∨ (k = 0 ∧ 0 ≤ z ∧ 65535 < z) ∨ (k = 2 ∧ n1 < 257) ∨ (k = 2 ∧ 257 ≤ n1 ∧ 286 < n1) ∨ (k = 2 ∧ 257 ≤ n1 ∧ n1 ≤ 286 ∧ n2 < 1) ∨ (k = 2 ∧ 257 ≤ n1 ∧ n1 ≤ 286 ∧ 1 ≤ n2 ∧ 30 < n2)) :
    Calls Tryd.prog 23 #[.pointer (some ⟨g, 0, none⟩), hv b k z (.slice A1 n1 c1) (.slice A2 n2 c2)] w fun e w' => e = .returned (.int .i64 1) ∧ Below w.heap.size w w' := by
  rcases h with h | h | ⟨h, h1⟩ | ⟨h, h1, h2⟩ | ⟨h, h1⟩ | ⟨h, h1, h2⟩ | ⟨h, h1, h2, h3⟩ | ⟨h, h1, h2, h3, h4⟩
  · go_enter Tryd.func23, Tryd.ntmps23
    go_wp2
    go_ret
    exact ⟨rfl, below_alloc _ _⟩
  · have h' : ¬ k < 0 := by omega
    go_enter Tryd.func23, Tryd.ntmps23
    go_wp2
    go_ret
    exact ⟨rfl, below_alloc _ _⟩
  all_goals
    subst h
    go_enter Tryd.func23, Tryd.ntmps23
    go_wp2
    go_ret
    exact ⟨rfl, below_alloc _ _⟩
set_option maxRecDepth 100000 in
theorem rWrite_unfit {e0 : Int} (h1 : 257 ≤ n1) (h1' : n1 ≤ 286) (h2 : 1 ≤ n2) (h2' : n2 ≤ 30) (he : e0 ≠ 0) (HF : Hid (∀ u, Below w.heap.size w u → Calls Tryd.prog 45 #[.slice A1 n1 c1, .slice A2 n2 c2] u fun e w' => e = .returned (.int .i64 e0) ∧ Below u.heap.size u w')) :
    Calls Tryd.prog 23 #[.pointer (some ⟨g, 0, none⟩), hv b 2 z (.slice A1 n1 c1) (.slice A2 n2 c2)] w fun e w' => e = .returned (.int .i64 e0) ∧ Below w.heap.size w w' := by
  have hne : (e0 != 0) = true := by simpa using he
  go_enter Tryd.func23, Tryd.ntmps23
  go_wp2_with fail
  refine (HF.out _ (below_alloc _ _)).mono ?_
  rintro e w1 ⟨rfl, b1⟩
  have B1 := Lib.hid b1
  clear b1
  go_wp2
  go_ret
  exact ⟨rfl, grows (below_alloc _ _) B1.out⟩

/-- The head's box stays under the writer. -/
theorem box_stay {base : Nat} {w w1 x : World} {g : Nat} {v vx : Value} {N z : Nat} {lx : List (Nat × Nat)} {t : TypeId} {cs : Array Value} {bs : List UInt8} (HW : rw' base w g v bs) (k1 : Blk w1 w.heap.size t cs) (h : rgone base w1 g v N z x vx lx) : Blk x w.heap.size t cs :=
  k1.only h.o (fun e => by
    rcases e with e | e
    · have := Blk.lt HW.b; omega
    · have := (HW.o.lt _ e).2; omega)

set_option maxHeartbeats 2000000 in
set_option maxRecDepth 100000 in
theorem rWrite_sto {n : Nat} (hn : n ≤ 65535) (HW : Hid (rw' base w g v bs)) (hz0 : bs.length = z0) (hb : base ≤ w.heap.size) (hz : z0 ≤ 1000000) :
    Calls Tryd.prog 23 #[.pointer (some ⟨g, 0, none⟩), hv b 0 (n : Int) (.slice A1 n1 c1) (.slice A2 n2 c2)] w fun e w' => e = .returned (.int .i64 0) ∧ ∃ v', rgone base w g v (bitN bs) z0 w' v' [(b.toNat, 1), (0, 2), (0, padZ (z0 + 3)), (n, 16), (65535 - n, 16)] := by
  subst hz0
  have b1 : Below w.heap.size w (w.alloc (.cells #[.bool b, .int .i64 0, .int .i64 (n : Int), .slice A1 n1 c1, .slice A2 n2 c2] 36)) := below_alloc _ _
  have k1 := Blk.fresh w 36 #[.bool b, .int .i64 0, .int .i64 (n : Int), .slice A1 n1 c1, .slice A2 n2 c2]
  obtain ⟨w1, hw1⟩ : ∃ w1, w1 = w.alloc (.cells #[.bool b, .int .i64 0, .int .i64 (n : Int), .slice A1 n1 c1, .slice A2 n2 c2] 36) := ⟨_, rfl⟩
  rw [← hw1] at b1 k1
  have HK : Hid (∀ x vx lx, rgone base w1 g v (bitN bs) bs.length x vx lx → Blk x w.heap.size 36 #[.bool b, .int .i64 0, .int .i64 (n : Int), .slice A1 n1 c1, .slice A2 n2 c2]) := Lib.hid (fun x vx lx h => box_stay HW.out k1 h)
  have G1 : Hid (rgone base w1 g v (bitN bs) bs.length w1 v []) := Lib.hid (rgone.start (rw_below HW.out b1) (Nat.le_trans hb b1.size))
  have HE : Hid (∀ x vx lx, rgone base w1 g v (bitN bs) bs.length x vx lx → rgone base w g v (bitN bs) bs.length x vx lx) := Lib.hid (fun x vx lx h => by
    have h0 := (rgone.start HW.out hb).below b1
    have := h0.trans h (by simp [bn]) (by simp [bl])
    simpa using this)
  have hx3 : (65535 : Int) - (n : Int) = ((65535 - n : Nat) : Int) := by omega
  have HX3 := Lib.hid hx3
  have hp : padZ (bs.length + 3) ≤ 8 := by unfold padZ; omega
  obtain ⟨Z, hZ⟩ : ∃ Z, Z = bs.length := ⟨_, rfl⟩
  rw [← hZ] at HK G1 HE hz hp ⊢
  clear k1 b1 HW hb hx3 hZ
  cases b
  · go_enter Tryd.func23, Tryd.ntmps23
    go_wp2_with fail
    rw [← hw1]
    refine (G1.out.put (y := 0) (m := 1) rfl rfl (by omega) (by omega) (by simp [bl]; omega)).mono ?_
    clear hw1
    rintro e w2 ⟨rfl, v2, g2⟩
    have G2 := Lib.hid g2
    have d1 := (HK.out _ _ _ g2).cell 1
    clear g2 G1
    go_wp2_with fail
    refine (G2.out.put (y := 0) (m := 2) rfl rfl (by omega) (by omega) (by simp [bl]; omega)).mono ?_
    rintro e w3 ⟨rfl, v3, g3⟩
    have G3 := Lib.hid g3
    clear d1
    have d1 := (HK.out _ _ _ g3).cell 1
    clear g3 G2
    go_wp2_with fail
    refine (G3.out.align (by simp [bl]; omega)).mono ?_
    rintro e w4 ⟨rfl, v4, g4⟩
    have G4 := Lib.hid g4
    clear d1
    have d2 := (HK.out _ _ _ g4).cell 2
    clear g4 G3
    go_wp2_with fail
    refine (G4.out.put (y := n) (m := 16) rfl rfl (by omega) (by omega) (by simp [bl]; omega)).mono ?_
    rintro e w5 ⟨rfl, v5, g5⟩
    have G5 := Lib.hid g5
    clear d2
    have d2 := (HK.out _ _ _ g5).cell 2
    clear g5 G4
    go_wp2_with fail
    refine (G5.out.put (y := 65535 - n) (m := 16) HX3.out rfl (by omega) (by omega) (by simp [bl]; omega)).mono ?_
    rintro e w6 ⟨rfl, v6, g6⟩
    have G6 := Lib.hid g6
    clear d2
    have d1 := (HK.out _ _ _ g6).cell 1
    clear g6 G5
    go_wp2
    go_ret
    exact ⟨rfl, v6, by simpa [bl] using HE.out _ _ _ G6.out⟩
  · go_enter Tryd.func23, Tryd.ntmps23
    go_wp2_with fail
    rw [← hw1]
    refine (G1.out.put (y := 1) (m := 1) rfl rfl (by omega) (by omega) (by simp [bl]; omega)).mono ?_
    clear hw1
    rintro e w2 ⟨rfl, v2, g2⟩
    have G2 := Lib.hid g2
    have d1 := (HK.out _ _ _ g2).cell 1
    clear g2 G1
    go_wp2_with fail
    refine (G2.out.put (y := 0) (m := 2) rfl rfl (by omega) (by omega) (by simp [bl]; omega)).mono ?_
    rintro e w3 ⟨rfl, v3, g3⟩
    have G3 := Lib.hid g3
    clear d1
    have d1 := (HK.out _ _ _ g3).cell 1
    clear g3 G2
    go_wp2_with fail
    refine (G3.out.align (by simp [bl]; omega)).mono ?_
    rintro e w4 ⟨rfl, v4, g4⟩
    have G4 := Lib.hid g4
    clear d1
    have d2 := (HK.out _ _ _ g4).cell 2
    clear g4 G3
    go_wp2_with fail
    refine (G4.out.put (y := n) (m := 16) rfl rfl (by omega) (by omega) (by simp [bl]; omega)).mono ?_
    rintro e w5 ⟨rfl, v5, g5⟩
    have G5 := Lib.hid g5
    clear d2
    have d2 := (HK.out _ _ _ g5).cell 2
    clear g5 G4
    go_wp2_with fail
    refine (G5.out.put (y := 65535 - n) (m := 16) HX3.out rfl (by omega) (by omega) (by simp [bl]; omega)).mono ?_
    rintro e w6 ⟨rfl, v6, g6⟩
    have G6 := Lib.hid g6
    clear d2
    have d1 := (HK.out _ _ _ g6).cell 1
    clear g6 G5
    go_wp2
    go_ret
    exact ⟨rfl, v6, by simpa [bl] using HE.out _ _ _ G6.out⟩
set_option maxHeartbeats 2000000 in
set_option maxRecDepth 100000 in
theorem rWrite_fix (HW : Hid (rw' base w g v bs)) (hz0 : bs.length = z0) (hb : base ≤ w.heap.size) (hz : z0 ≤ 1000000) :
    Calls Tryd.prog 23 #[.pointer (some ⟨g, 0, none⟩), hv b 1 z (.slice A1 n1 c1) (.slice A2 n2 c2)] w fun e w' => e = .returned (.int .i64 0) ∧ ∃ v', rgone base w g v (bitN bs) z0 w' v' [(b.toNat, 1), (1, 2)] := by
  subst hz0
  have b1 : Below w.heap.size w (w.alloc (.cells #[.bool b, .int .i64 1, .int .i64 z, .slice A1 n1 c1, .slice A2 n2 c2] 36)) := below_alloc _ _
  have k1 := Blk.fresh w 36 #[.bool b, .int .i64 1, .int .i64 z, .slice A1 n1 c1, .slice A2 n2 c2]
  obtain ⟨w1, hw1⟩ : ∃ w1, w1 = w.alloc (.cells #[.bool b, .int .i64 1, .int .i64 z, .slice A1 n1 c1, .slice A2 n2 c2] 36) := ⟨_, rfl⟩
  rw [← hw1] at b1 k1
  have HK : Hid (∀ x vx lx, rgone base w1 g v (bitN bs) bs.length x vx lx → Blk x w.heap.size 36 #[.bool b, .int .i64 1, .int .i64 z, .slice A1 n1 c1, .slice A2 n2 c2]) := Lib.hid (fun x vx lx h => box_stay HW.out k1 h)
  have G1 : Hid (rgone base w1 g v (bitN bs) bs.length w1 v []) := Lib.hid (rgone.start (rw_below HW.out b1) (Nat.le_trans hb b1.size))
  have HE : Hid (∀ x vx lx, rgone base w1 g v (bitN bs) bs.length x vx lx → rgone base w g v (bitN bs) bs.length x vx lx) := Lib.hid (fun x vx lx h => by
    have h0 := (rgone.start HW.out hb).below b1
    have := h0.trans h (by simp [bn]) (by simp [bl])
    simpa using this)
  obtain ⟨Z, hZ⟩ : ∃ Z, Z = bs.length := ⟨_, rfl⟩
  rw [← hZ] at HK G1 HE hz ⊢
  clear k1 b1 HW hb hZ
  cases b
  · go_enter Tryd.func23, Tryd.ntmps23
    go_wp2_with fail
    rw [← hw1]
    refine (G1.out.put (y := 0) (m := 1) rfl rfl (by omega) (by omega) (by simp [bl]; omega)).mono ?_
    clear hw1
    rintro e w2 ⟨rfl, v2, g2⟩
    have G2 := Lib.hid g2
    have d1 := (HK.out _ _ _ g2).cell 1
    clear g2 G1
    go_wp2_with fail
    refine (G2.out.put (y := 1) (m := 2) rfl rfl (by omega) (by omega) (by simp [bl]; omega)).mono ?_
    rintro e w3 ⟨rfl, v3, g3⟩
    have G3 := Lib.hid g3
    clear d1
    have d1 := (HK.out _ _ _ g3).cell 1
    clear g3 G2
    go_wp2
    go_ret
    exact ⟨rfl, v3, by simpa [bl] using HE.out _ _ _ G3.out⟩
  · go_enter Tryd.func23, Tryd.ntmps23
    go_wp2_with fail
    rw [← hw1]
    refine (G1.out.put (y := 1) (m := 1) rfl rfl (by omega) (by omega) (by simp [bl]; omega)).mono ?_
    clear hw1
    rintro e w2 ⟨rfl, v2, g2⟩
    have G2 := Lib.hid g2
    have d1 := (HK.out _ _ _ g2).cell 1
    clear g2 G1
    go_wp2_with fail
    refine (G2.out.put (y := 1) (m := 2) rfl rfl (by omega) (by omega) (by simp [bl]; omega)).mono ?_
    rintro e w3 ⟨rfl, v3, g3⟩
    have G3 := Lib.hid g3
    clear d1
    have d1 := (HK.out _ _ _ g3).cell 1
    clear g3 G2
    go_wp2
    go_ret
    exact ⟨rfl, v3, by simpa [bl] using HE.out _ _ _ G3.out⟩
end
end Go.Proofs.YtgbdecnaamlekaaDoor.Mb
namespace Go.Proofs.YtgbdecnaamlekaaDoor.Mc
open Go.RowKit Go.Proofs.YtgbdecnaamlekaaDoor.Vm Go.Proofs.YtgbdecnaamlekaaDoor.Vo Go.Proofs.YtgbdecnaamlekaaDoor.Bm Go.Proofs.YtgbdecnaamlekaaDoor.Bt Go.Proofs.YtgbdecnaamlekaaDoor.Bw Go.Proofs.YtgbdecnaamlekaaDoor.Bp Go.Proofs.YtgbdecnaamlekaaDoor.Bs Go.Proofs.YtgbdecnaamlekaaDoor.Bv Go.Proofs.YtgbdecnaamlekaaDoor.Bx Go.Proofs.YtgbdecnaamlekaaDoor.Na Go.Proofs.YtgbdecnaamlekaaDoor.Nf Go.Proofs.YtgbdecnaamlekaaDoor.Nm Go.Proofs.YtgbdecnaamlekaaDoor.Ni Go.Proofs.YtgbdecnaamlekaaDoor.Ne Go.Proofs.YtgbdecnaamlekaaDoor.Nh Go.Proofs.YtgbdecnaamlekaaDoor.Pm Go.Proofs.YtgbdecnaamlekaaDoor.Pw Go.Proofs.YtgbdecnaamlekaaDoor.Pi Go.Proofs.YtgbdecnaamlekaaDoor.Ko Go.Proofs.YtgbdecnaamlekaaDoor.Ka Go.Proofs.YtgbdecnaamlekaaDoor.Kb Go.Proofs.YtgbdecnaamlekaaDoor.Km Go.Proofs.YtgbdecnaamlekaaDoor.Kw Go.Proofs.YtgbdecnaamlekaaDoor.Ks Go.Proofs.YtgbdecnaamlekaaDoor.Kc Go.Proofs.YtgbdecnaamlekaaDoor.Kd Go.Proofs.YtgbdecnaamlekaaDoor.Ke Go.Proofs.YtgbdecnaamlekaaDoor.Ky Go.Proofs.YtgbdecnaamlekaaDoor.Kx Go.Proofs.YtgbdecnaamlekaaDoor.Ku Go.Proofs.YtgbdecnaamlekaaDoor.Kh Go.Proofs.YtgbdecnaamlekaaDoor.Be Go.Proofs.YtgbdecnaamlekaaDoor.Ki Go.Proofs.YtgbdecnaamlekaaDoor.Kl Go.Proofs.YtgbdecnaamlekaaDoor.Kn Go.Proofs.YtgbdecnaamlekaaDoor.Ma Go.Proofs.YtgbdecnaamlekaaDoor.Mb

/-- A block made when the writer was there stays under it. -/
theorem blk_stay {base : Nat} {w0 w1 x : World} {g : Nat} {v : Value} {bs : List UInt8} {t : TypeId} {cs : Array Value} (h : rw' base w0 g v bs) (k : Blk w1 w0.heap.size t cs) (o : Only (own g v) w1 x) : Blk x w0.heap.size t cs :=
  k.only o (fun e => by
    rcases e with e | e
    · have := Blk.lt h.b; omega
    · have := (h.o.lt _ e).2; omega)

section
variable {base : Nat} {w : World} {g z0 : Nat} {v : Value} {bs : List UInt8} {b : Bool} {z : Int} {A1 A2 : Option Addr} {n1 c1 n2 c2 : Nat} {f1 f2 : Nat → Int}
set_option maxHeartbeats 8000000 in
set_option maxRecDepth 100000 in
theorem rWrite_dyn (h1 : 257 ≤ n1) (h1' : n1 ≤ 286) (h2 : 1 ≤ n2) (h2' : n2 ≤ 30) (hf1 : ∀ i, i < n1 → 0 ≤ f1 i ∧ f1 i ≤ 15) (hf2 : ∀ i, i < n2 → 0 ≤ f2 i ∧ f2 i ≤ 15) (hfit : fitsI n1 f1 n2 f2 = 0)
    (HW : Hid (rw' base w g v bs)) (hz0 : bs.length = z0) (hb : base ≤ w.heap.size) (hz : z0 ≤ 1000000) (HR : Hid (∀ x, Only (own g v) w x → row x A1 n1 f1 ∧ row x A2 n2 f2)) :
    Calls Tryd.prog 23 #[.pointer (some ⟨g, 0, none⟩), hv b 2 z (.slice A1 n1 c1) (.slice A2 n2 c2)] w fun e w' => e = .returned (.int .i64 0) ∧ ∃ v', rgone base w g v (bitN bs) z0 w' v' ([(b.toNat, 1), (2, 2)] ++ outD (L n1 f1) (L n2 f2)) := by
  subst hz0
  have b1 : Below w.heap.size w (w.alloc (.cells #[.bool b, .int .i64 2, .int .i64 z, .slice A1 n1 c1, .slice A2 n2 c2] 36)) := below_alloc _ _
  have k1 := Blk.fresh w 36 #[.bool b, .int .i64 2, .int .i64 z, .slice A1 n1 c1, .slice A2 n2 c2]
  obtain ⟨w1, hw1⟩ : ∃ w1, w1 = w.alloc (.cells #[.bool b, .int .i64 2, .int .i64 z, .slice A1 n1 c1, .slice A2 n2 c2] 36) := ⟨_, rfl⟩
  rw [← hw1] at b1 k1
  have HK : Hid (∀ x vx lx, rgone base w1 g v (bitN bs) bs.length x vx lx → Blk x w.heap.size 36 #[.bool b, .int .i64 2, .int .i64 z, .slice A1 n1 c1, .slice A2 n2 c2]) := Lib.hid (fun x vx lx h => box_stay HW.out k1 h)
  have G1 : Hid (rgone base w1 g v (bitN bs) bs.length w1 v []) := Lib.hid (rgone.start (rw_below HW.out b1) (Nat.le_trans hb b1.size))
  have HE : Hid (∀ x vx lx, rgone base w1 g v (bitN bs) bs.length x vx lx → rgone base w g v (bitN bs) bs.length x vx lx) := Lib.hid (fun x vx lx h => by
    have h0 := (rgone.start HW.out hb).below b1
    have := h0.trans h (by simp [bn]) (by simp [bl])
    simpa using this)
  have HRr : Hid (∀ x vx lx, rgone base w1 g v (bitN bs) bs.length x vx lx → row x A1 n1 f1 ∧ row x A2 n2 f2) := Lib.hid (fun x vx lx h => HR.out x ((Only.of_below b1).trans h.o))
  have HF : Hid (Calls Tryd.prog 45 #[.slice A1 n1 c1, .slice A2 n2 c2] w1 fun e w' => e = .returned (.int .i64 0) ∧ Below w1.heap.size w1 w') := Lib.hid (by
    have h := HRr.out _ _ _ G1.out
    have := rfits_any (c1 := c1) (c2 := c2) h1 (by omega) (by omega) (Lib.hid h.1) (Lib.hid h.2)
    rw [hfit] at this
    exact this)
  obtain ⟨Z, hZ⟩ : ∃ Z, Z = bs.length := ⟨_, rfl⟩
  rw [← hZ] at HK G1 HE HRr hz ⊢
  have HX1 : Hid (∀ k, k < n1 → ∃ x : Nat, f1 k = (x : Int) ∧ x < 16 ∧ (L n1 f1)[k]? = some x) := Lib.hid (fun k hk => ⟨nth (L n1 f1) k, L_eq hf1 hk, L_mem hf1 _ (List.mem_of_getElem? (nth_get (by rw [L_length]; exact hk))), nth_get (by rw [L_length]; exact hk)⟩)
  have HX2 : Hid (∀ k, k < n2 → ∃ x : Nat, f2 k = (x : Int) ∧ x < 16 ∧ (L n2 f2)[k]? = some x) := Lib.hid (fun k hk => ⟨nth (L n2 f2) k, L_eq hf2 hk, L_mem hf2 _ (List.mem_of_getElem? (nth_get (by rw [L_length]; exact hk))), nth_get (by rw [L_length]; exact hk)⟩)
  have HL1 : Hid ((L n1 f1).length = n1) := Lib.hid (L_length n1 f1)
  have HL2 : Hid ((L n2 f2).length = n2) := Lib.hid (L_length n2 f2)
  have HXO : Hid (outD (L n1 f1) (L n2 f2) = [(n1 - 257, 5), (n2 - 1, 5), (15, 4)] ++ ords.map (fun o => (c4 o, 3)) ++ ((L n1 f1).map (fun x => (turnN x 4, 4)) ++ (L n2 f2).map (fun x => (turnN x 4, 4)))) := Lib.hid (by
    unfold outD; rw [L_length, L_length, List.map_append])
  rw [HXO.out]
  obtain ⟨l1, hl1⟩ : ∃ l1, l1 = L n1 f1 := ⟨_, rfl⟩
  obtain ⟨l2, hl2⟩ : ∃ l2, l2 = L n2 f2 := ⟨_, rfl⟩
  rw [← hl1] at HX1 HL1 ⊢
  rw [← hl2] at HX2 HL2 ⊢
  clear k1 b1 HW hb hZ hf1 hf2 hfit HR HXO hl1 hl2
  cases b
  · go_enter Tryd.func23, Tryd.ntmps23
    go_wp2_with fail
    rw [← hw1]
    clear hw1
    refine HF.out.mono ?_
    rintro e w2 ⟨rfl, b2⟩
    have G1' := Lib.hid (G1.out.below b2)
    have d0 := (HK.out _ _ _ G1'.out).cell 0
    clear b2 G1 HF
    go_wp2_with fail
    refine (G1'.out.put (y := 0) (m := 1) rfl rfl (by omega) (by omega) (by simp [bl]; omega)).mono ?_
    rintro e w2 ⟨rfl, v2, g2⟩
    have G2 := Lib.hid g2
    clear d0
    have d1 := (HK.out _ _ _ g2).cell 1
    clear g2 G1'
    go_wp2_with fail
    refine (G2.out.put (y := 2) (m := 2) rfl rfl (by omega) (by omega) (by simp [bl]; omega)).mono ?_
    rintro e w3 ⟨rfl, v3, g3⟩
    have G3 := Lib.hid g3
    clear d1
    have d1 := (HK.out _ _ _ g3).cell 1
    have d3 := (HK.out _ _ _ g3).cell 3
    clear g3 G2
    go_wp2_with fail
    refine (G3.out.put (y := n1 - 257) (m := 5) (by omega) rfl (by omega) (by omega) (by simp [bl]; omega)).mono ?_
    rintro e w4 ⟨rfl, v4, g4⟩
    have G4 := Lib.hid g4
    clear d1 d3
    have d4 := (HK.out _ _ _ g4).cell 4
    clear g4 G3
    go_wp2_with fail
    refine (G4.out.put (y := n2 - 1) (m := 5) (by omega) rfl (by omega) (by omega) (by simp [bl]; omega)).mono ?_
    rintro e w5 ⟨rfl, v5, g5⟩
    have G5 := Lib.hid g5
    clear d4 g5 G4
    go_wp2_with fail
    refine (G5.out.put (y := 15) (m := 4) rfl rfl (by omega) (by omega) (by simp [bl]; omega)).mono ?_
    rintro e w6 ⟨rfl, v6, g6⟩
    have G6 : Hid (rgone base w1 g v (bitN bs) Z w6 v6 [(0, 1), (2, 2), (n1 - 257, 5), (n2 - 1, 5), (15, 4)]) := Lib.hid g6
    clear g6 G5
    go_wp2_with fail
    refine (order_any w6).mono ?_
    rintro e w7 ⟨rfl, k7, b7⟩
    have G7 := Lib.hid (G6.out.below b7)
    obtain ⟨bs6, t6, hl6, e6⟩ := G6.out.t
    have HO7 : Hid (∀ x, Only (own g v6) w7 x → Blk x w6.heap.size 3 (arr 19 (fun i => (ord i : Int)))) := Lib.hid (fun x o => blk_stay t6 k7 o)
    have R7 : Hid (rgone base w7 g v6 (bitN bs6) (Z + 17) w7 v6 []) := Lib.hid (by
      have h := rgone.start (rw_below t6 b7) G7.out.size
      rw [hl6, show bl [(0, 1), (2, 2), (n1 - 257, 5), (n2 - 1, 5), (15, 4)] = 17 by simp [bl]] at h
      exact h)
    have E6 := Lib.hid e6
    clear k7 b7 t6 hl6 e6 G6
    go_wp2_with fail
    go_loopw [8] (fun s8 wr => ∃ (k : Nat) (v' : Value), s8 = .int .i64 (k : Int) ∧ k ≤ 19 ∧ Hid (rgone base w7 g v6 (bitN bs6) (Z + 17) wr v' ((ords.take k).map (fun o => (c4 o, 3))))) (fun s8 _ => 19 - (intOf s8).toNat)
    case atStart => exact ⟨0, v6, rfl, by omega, Lib.hid (by simpa using R7.out)⟩
    case round =>
      obtain ⟨k, v8, rfl, hk, R8⟩ := hrel
      by_cases hk19 : k < 19
      · obtain ⟨o, ho⟩ : ∃ o, o = ord k := ⟨_, rfl⟩
        have HO := Lib.hid ho
        have kO := HO7.out wr R8.out.o
        have o1 := (kO.cell k).trans (arr_get _ hk19)
        have hlo := kO.lt
        rw [← ho] at o1
        have e19 : ords[k]? = some o := by rw [ho]; exact nth_get hk19
        have HE19 := Lib.hid e19
        have hbl : Hid (bl ((ords.take k).map (fun o => (c4 o, 3))) ≤ 60) := Lib.hid (by rw [bl_map, List.length_take, ords_length]; omega)
        clear ho kO hlo e19
        by_cases ho16 : o < 16
        · have ho16' : (o : Int) < 16 := by omega
          have HC : Hid (c4 o = 4) := Lib.hid (by unfold c4; rw [if_pos ho16])
          go_wp2_with fail
          refine (R8.out.put (y := 4) (m := 3) rfl rfl (by omega) (by omega) (by have := hbl.out; omega)).mono ?_
          rintro e w9 ⟨rfl, v9, r9⟩
          have R9 := Lib.hid r9
          clear r9
          go_wp2
          go_roundw
          case rel =>
            refine ⟨k + 1, v9, by go_num, by omega, Lib.hid ?_⟩
            have h := R9.out
            rw [take_snoc HE19.out, List.map_append]
            rw [show [o].map (fun o => (c4 o, 3)) = [(4, 3)] by simp [HC.out]]
            exact h
          case measure => simp [intOf]; omega
        · have ho16' : ¬ (o : Int) < 16 := by omega
          have HC : Hid (c4 o = 0) := Lib.hid (by unfold c4; rw [if_neg ho16])
          go_wp2_with fail
          refine (R8.out.put (y := 0) (m := 3) rfl rfl (by omega) (by omega) (by have := hbl.out; omega)).mono ?_
          rintro e w9 ⟨rfl, v9, r9⟩
          have R9 := Lib.hid r9
          clear r9
          go_wp2
          go_roundw
          case rel =>
            refine ⟨k + 1, v9, by go_num, by omega, Lib.hid ?_⟩
            have h := R9.out
            rw [take_snoc HE19.out, List.map_append]
            rw [show [o].map (fun o => (c4 o, 3)) = [(0, 3)] by simp [HC.out]]
            exact h
          case measure => simp [intOf]; omega
      · obtain rfl : k = 19 := by omega
        rw [show (((19 : Nat)) : Int) = (19 : Int) from rfl]
        have G8 : Hid (rgone base w1 g v (bitN bs) Z wr v8 ([(0, 1), (2, 2), (n1 - 257, 5), (n2 - 1, 5), (15, 4)] ++ ords.map (fun o => (c4 o, 3)))) := Lib.hid (by
          have h := R8.out
          rw [List.take_of_length_le (by rw [ords_length]; omega)] at h
          exact G7.out.trans h E6.out (by simp [bl]))
        have HBL : Hid (bl ([(0, 1), (2, 2), (n1 - 257, 5), (n2 - 1, 5), (15, 4)] ++ ords.map (fun o => (c4 o, 3))) = 74) := Lib.hid (by rw [bl_append, bl_map, ords_length]; simp [bl])
        obtain ⟨P, hP⟩ : ∃ P, P = [(0, 1), (2, 2), (n1 - 257, 5), (n2 - 1, 5), (15, 4)] ++ ords.map (fun o => (c4 o, 3)) := ⟨_, rfl⟩
        rw [← hP] at G8 HBL
        have HP := Lib.hid hP
        clear R8 R7 G7 E6 HO7 hP
        go_wp2_with fail
        go_loopw [9] (fun s9 wr => ∃ (k : Nat) (v' : Value), s9 = .int .i64 (k : Int) ∧ k ≤ n1 ∧ Hid (rgone base w1 g v (bitN bs) Z wr v' (P ++ (l1.take k).map (fun x => (turnN x 4, 4))))) (fun s9 _ => n1 - (intOf s9).toNat)
        case atStart => exact ⟨0, v8, rfl, by omega, Lib.hid (by simpa using G8.out)⟩
        case round =>
          obtain ⟨k, v10, rfl, hk, G10⟩ := hrel
          have d3 := (HK.out _ _ _ G10.out).cell 3
          by_cases hkn : k < n1
          · obtain ⟨x, hx, hx16, hxk⟩ := HX1.out k hkn
            obtain ⟨b10, off10, hA10, hb10, o1⟩ := (HRr.out _ _ _ G10.out).1 k hkn
            subst hA10
            rw [hx] at o1
            have HXK := Lib.hid hxk
            have hbl : Hid (bl (P ++ (l1.take k).map (fun x => (turnN x 4, 4))) ≤ 2000) := Lib.hid (by rw [bl_append, HBL.out, bl_map, List.length_take, HL1.out]; omega)
            clear hx hxk
            go_wp2_with fail
            refine (G10.out.code (y := x) (m := 4) rfl rfl (by omega) (by omega) (by have := hbl.out; omega)).mono ?_
            rintro e w11 ⟨rfl, v11, g11⟩
            have G11 := Lib.hid g11
            clear g11 d3
            go_wp2
            go_roundw
            case rel =>
              refine ⟨k + 1, v11, by go_num, by omega, Lib.hid ?_⟩
              have h := G11.out
              rw [take_snoc HXK.out, List.map_append, ← List.append_assoc]
              exact h
            case measure => simp [intOf]; omega
          · obtain rfl : k = n1 := by omega
            have G12 : Hid (rgone base w1 g v (bitN bs) Z wr v10 (P ++ l1.map (fun x => (turnN x 4, 4)))) := Lib.hid (by
              have h := G10.out
              rw [List.take_of_length_le (by rw [HL1.out]; omega)] at h
              exact h)
            have HBL2 : Hid (bl (P ++ l1.map (fun x => (turnN x 4, 4))) ≤ 2000) := Lib.hid (by rw [bl_append, HBL.out, bl_map, HL1.out]; omega)
            obtain ⟨P2, hP2⟩ : ∃ P2, P2 = P ++ l1.map (fun x => (turnN x 4, 4)) := ⟨_, rfl⟩
            rw [← hP2] at G12 HBL2
            have HP2 := Lib.hid hP2
            clear G10 G8 hP2
            go_wp2_with fail
            go_loopw [10] (fun s10 wr => ∃ (j : Nat) (v' : Value), s10 = .int .i64 (j : Int) ∧ j ≤ n2 ∧ Hid (rgone base w1 g v (bitN bs) Z wr v' (P2 ++ (l2.take j).map (fun x => (turnN x 4, 4))))) (fun s10 _ => n2 - (intOf s10).toNat)
            case atStart => exact ⟨0, v10, rfl, by omega, Lib.hid (by simpa using G12.out)⟩
            case round =>
              obtain ⟨j, v13, rfl, hj, G13⟩ := hrel
              clear d3
              have d4 := (HK.out _ _ _ G13.out).cell 4
              by_cases hjn : j < n2
              · obtain ⟨x, hx, hx16, hxk⟩ := HX2.out j hjn
                obtain ⟨b13, off13, hA13, hb13, o1⟩ := (HRr.out _ _ _ G13.out).2 j hjn
                subst hA13
                rw [hx] at o1
                have HXK := Lib.hid hxk
                have hbl : Hid (bl (P2 ++ (l2.take j).map (fun x => (turnN x 4, 4))) ≤ 4000) := Lib.hid (by have := HBL2.out; rw [bl_append, bl_map, List.length_take, HL2.out]; omega)
                clear hx hxk
                go_wp2_with fail
                refine (G13.out.code (y := x) (m := 4) rfl rfl (by omega) (by omega) (by have := hbl.out; omega)).mono ?_
                rintro e w14 ⟨rfl, v14, g14⟩
                have G14 := Lib.hid g14
                clear g14 d4
                go_wp2
                go_roundw
                case rel =>
                  refine ⟨j + 1, v14, by go_num, by omega, Lib.hid ?_⟩
                  have h := G14.out
                  rw [take_snoc HXK.out, List.map_append, ← List.append_assoc]
                  exact h
                case measure => simp [intOf]; omega
              · obtain rfl : j = n2 := by omega
                have G15 : Hid (rgone base w1 g v (bitN bs) Z wr v13 (P2 ++ l2.map (fun x => (turnN x 4, 4)))) := Lib.hid (by
                  have h := G13.out
                  rw [List.take_of_length_le (by rw [HL2.out]; omega)] at h
                  exact h)
                clear G13
                go_wp2
                go_ret
                refine ⟨rfl, v13, ?_⟩
                have h := HE.out _ _ _ G15.out
                rw [HP2.out, HP.out] at h
                simpa using h
  · go_enter Tryd.func23, Tryd.ntmps23
    go_wp2_with fail
    rw [← hw1]
    clear hw1
    refine HF.out.mono ?_
    rintro e w2 ⟨rfl, b2⟩
    have G1' := Lib.hid (G1.out.below b2)
    have d0 := (HK.out _ _ _ G1'.out).cell 0
    clear b2 G1 HF
    go_wp2_with fail
    refine (G1'.out.put (y := 1) (m := 1) rfl rfl (by omega) (by omega) (by simp [bl]; omega)).mono ?_
    rintro e w2 ⟨rfl, v2, g2⟩
    have G2 := Lib.hid g2
    clear d0
    have d1 := (HK.out _ _ _ g2).cell 1
    clear g2 G1'
    go_wp2_with fail
    refine (G2.out.put (y := 2) (m := 2) rfl rfl (by omega) (by omega) (by simp [bl]; omega)).mono ?_
    rintro e w3 ⟨rfl, v3, g3⟩
    have G3 := Lib.hid g3
    clear d1
    have d1 := (HK.out _ _ _ g3).cell 1
    have d3 := (HK.out _ _ _ g3).cell 3
    clear g3 G2
    go_wp2_with fail
    refine (G3.out.put (y := n1 - 257) (m := 5) (by omega) rfl (by omega) (by omega) (by simp [bl]; omega)).mono ?_
    rintro e w4 ⟨rfl, v4, g4⟩
    have G4 := Lib.hid g4
    clear d1 d3
    have d4 := (HK.out _ _ _ g4).cell 4
    clear g4 G3
    go_wp2_with fail
    refine (G4.out.put (y := n2 - 1) (m := 5) (by omega) rfl (by omega) (by omega) (by simp [bl]; omega)).mono ?_
    rintro e w5 ⟨rfl, v5, g5⟩
    have G5 := Lib.hid g5
    clear d4 g5 G4
    go_wp2_with fail
    refine (G5.out.put (y := 15) (m := 4) rfl rfl (by omega) (by omega) (by simp [bl]; omega)).mono ?_
    rintro e w6 ⟨rfl, v6, g6⟩
    have G6 : Hid (rgone base w1 g v (bitN bs) Z w6 v6 [(1, 1), (2, 2), (n1 - 257, 5), (n2 - 1, 5), (15, 4)]) := Lib.hid g6
    clear g6 G5
    go_wp2_with fail
    refine (order_any w6).mono ?_
    rintro e w7 ⟨rfl, k7, b7⟩
    have G7 := Lib.hid (G6.out.below b7)
    obtain ⟨bs6, t6, hl6, e6⟩ := G6.out.t
    have HO7 : Hid (∀ x, Only (own g v6) w7 x → Blk x w6.heap.size 3 (arr 19 (fun i => (ord i : Int)))) := Lib.hid (fun x o => blk_stay t6 k7 o)
    have R7 : Hid (rgone base w7 g v6 (bitN bs6) (Z + 17) w7 v6 []) := Lib.hid (by
      have h := rgone.start (rw_below t6 b7) G7.out.size
      rw [hl6, show bl [(1, 1), (2, 2), (n1 - 257, 5), (n2 - 1, 5), (15, 4)] = 17 by simp [bl]] at h
      exact h)
    have E6 := Lib.hid e6
    clear k7 b7 t6 hl6 e6 G6
    go_wp2_with fail
    go_loopw [8] (fun s8 wr => ∃ (k : Nat) (v' : Value), s8 = .int .i64 (k : Int) ∧ k ≤ 19 ∧ Hid (rgone base w7 g v6 (bitN bs6) (Z + 17) wr v' ((ords.take k).map (fun o => (c4 o, 3))))) (fun s8 _ => 19 - (intOf s8).toNat)
    case atStart => exact ⟨0, v6, rfl, by omega, Lib.hid (by simpa using R7.out)⟩
    case round =>
      obtain ⟨k, v8, rfl, hk, R8⟩ := hrel
      by_cases hk19 : k < 19
      · obtain ⟨o, ho⟩ : ∃ o, o = ord k := ⟨_, rfl⟩
        have HO := Lib.hid ho
        have kO := HO7.out wr R8.out.o
        have o1 := (kO.cell k).trans (arr_get _ hk19)
        have hlo := kO.lt
        rw [← ho] at o1
        have e19 : ords[k]? = some o := by rw [ho]; exact nth_get hk19
        have HE19 := Lib.hid e19
        have hbl : Hid (bl ((ords.take k).map (fun o => (c4 o, 3))) ≤ 60) := Lib.hid (by rw [bl_map, List.length_take, ords_length]; omega)
        clear ho kO hlo e19
        by_cases ho16 : o < 16
        · have ho16' : (o : Int) < 16 := by omega
          have HC : Hid (c4 o = 4) := Lib.hid (by unfold c4; rw [if_pos ho16])
          go_wp2_with fail
          refine (R8.out.put (y := 4) (m := 3) rfl rfl (by omega) (by omega) (by have := hbl.out; omega)).mono ?_
          rintro e w9 ⟨rfl, v9, r9⟩
          have R9 := Lib.hid r9
          clear r9
          go_wp2
          go_roundw
          case rel =>
            refine ⟨k + 1, v9, by go_num, by omega, Lib.hid ?_⟩
            have h := R9.out
            rw [take_snoc HE19.out, List.map_append]
            rw [show [o].map (fun o => (c4 o, 3)) = [(4, 3)] by simp [HC.out]]
            exact h
          case measure => simp [intOf]; omega
        · have ho16' : ¬ (o : Int) < 16 := by omega
          have HC : Hid (c4 o = 0) := Lib.hid (by unfold c4; rw [if_neg ho16])
          go_wp2_with fail
          refine (R8.out.put (y := 0) (m := 3) rfl rfl (by omega) (by omega) (by have := hbl.out; omega)).mono ?_
          rintro e w9 ⟨rfl, v9, r9⟩
          have R9 := Lib.hid r9
          clear r9
          go_wp2
          go_roundw
          case rel =>
            refine ⟨k + 1, v9, by go_num, by omega, Lib.hid ?_⟩
            have h := R9.out
            rw [take_snoc HE19.out, List.map_append]
            rw [show [o].map (fun o => (c4 o, 3)) = [(0, 3)] by simp [HC.out]]
            exact h
          case measure => simp [intOf]; omega
      · obtain rfl : k = 19 := by omega
        rw [show (((19 : Nat)) : Int) = (19 : Int) from rfl]
        have G8 : Hid (rgone base w1 g v (bitN bs) Z wr v8 ([(1, 1), (2, 2), (n1 - 257, 5), (n2 - 1, 5), (15, 4)] ++ ords.map (fun o => (c4 o, 3)))) := Lib.hid (by
          have h := R8.out
          rw [List.take_of_length_le (by rw [ords_length]; omega)] at h
          exact G7.out.trans h E6.out (by simp [bl]))
        have HBL : Hid (bl ([(1, 1), (2, 2), (n1 - 257, 5), (n2 - 1, 5), (15, 4)] ++ ords.map (fun o => (c4 o, 3))) = 74) := Lib.hid (by rw [bl_append, bl_map, ords_length]; simp [bl])
        obtain ⟨P, hP⟩ : ∃ P, P = [(1, 1), (2, 2), (n1 - 257, 5), (n2 - 1, 5), (15, 4)] ++ ords.map (fun o => (c4 o, 3)) := ⟨_, rfl⟩
        rw [← hP] at G8 HBL
        have HP := Lib.hid hP
        clear R8 R7 G7 E6 HO7 hP
        go_wp2_with fail
        go_loopw [9] (fun s9 wr => ∃ (k : Nat) (v' : Value), s9 = .int .i64 (k : Int) ∧ k ≤ n1 ∧ Hid (rgone base w1 g v (bitN bs) Z wr v' (P ++ (l1.take k).map (fun x => (turnN x 4, 4))))) (fun s9 _ => n1 - (intOf s9).toNat)
        case atStart => exact ⟨0, v8, rfl, by omega, Lib.hid (by simpa using G8.out)⟩
        case round =>
          obtain ⟨k, v10, rfl, hk, G10⟩ := hrel
          have d3 := (HK.out _ _ _ G10.out).cell 3
          by_cases hkn : k < n1
          · obtain ⟨x, hx, hx16, hxk⟩ := HX1.out k hkn
            obtain ⟨b10, off10, hA10, hb10, o1⟩ := (HRr.out _ _ _ G10.out).1 k hkn
            subst hA10
            rw [hx] at o1
            have HXK := Lib.hid hxk
            have hbl : Hid (bl (P ++ (l1.take k).map (fun x => (turnN x 4, 4))) ≤ 2000) := Lib.hid (by rw [bl_append, HBL.out, bl_map, List.length_take, HL1.out]; omega)
            clear hx hxk
            go_wp2_with fail
            refine (G10.out.code (y := x) (m := 4) rfl rfl (by omega) (by omega) (by have := hbl.out; omega)).mono ?_
            rintro e w11 ⟨rfl, v11, g11⟩
            have G11 := Lib.hid g11
            clear g11 d3
            go_wp2
            go_roundw
            case rel =>
              refine ⟨k + 1, v11, by go_num, by omega, Lib.hid ?_⟩
              have h := G11.out
              rw [take_snoc HXK.out, List.map_append, ← List.append_assoc]
              exact h
            case measure => simp [intOf]; omega
          · obtain rfl : k = n1 := by omega
            have G12 : Hid (rgone base w1 g v (bitN bs) Z wr v10 (P ++ l1.map (fun x => (turnN x 4, 4)))) := Lib.hid (by
              have h := G10.out
              rw [List.take_of_length_le (by rw [HL1.out]; omega)] at h
              exact h)
            have HBL2 : Hid (bl (P ++ l1.map (fun x => (turnN x 4, 4))) ≤ 2000) := Lib.hid (by rw [bl_append, HBL.out, bl_map, HL1.out]; omega)
            obtain ⟨P2, hP2⟩ : ∃ P2, P2 = P ++ l1.map (fun x => (turnN x 4, 4)) := ⟨_, rfl⟩
            rw [← hP2] at G12 HBL2
            have HP2 := Lib.hid hP2
            clear G10 G8 hP2
            go_wp2_with fail
            go_loopw [10] (fun s10 wr => ∃ (j : Nat) (v' : Value), s10 = .int .i64 (j : Int) ∧ j ≤ n2 ∧ Hid (rgone base w1 g v (bitN bs) Z wr v' (P2 ++ (l2.take j).map (fun x => (turnN x 4, 4))))) (fun s10 _ => n2 - (intOf s10).toNat)
            case atStart => exact ⟨0, v10, rfl, by omega, Lib.hid (by simpa using G12.out)⟩
            case round =>
              obtain ⟨j, v13, rfl, hj, G13⟩ := hrel
              clear d3
              have d4 := (HK.out _ _ _ G13.out).cell 4
              by_cases hjn : j < n2
              · obtain ⟨x, hx, hx16, hxk⟩ := HX2.out j hjn
                obtain ⟨b13, off13, hA13, hb13, o1⟩ := (HRr.out _ _ _ G13.out).2 j hjn
                subst hA13
                rw [hx] at o1
                have HXK := Lib.hid hxk
                have hbl : Hid (bl (P2 ++ (l2.take j).map (fun x => (turnN x 4, 4))) ≤ 4000) := Lib.hid (by have := HBL2.out; rw [bl_append, bl_map, List.length_take, HL2.out]; omega)
                clear hx hxk
                go_wp2_with fail
                refine (G13.out.code (y := x) (m := 4) rfl rfl (by omega) (by omega) (by have := hbl.out; omega)).mono ?_
                rintro e w14 ⟨rfl, v14, g14⟩
                have G14 := Lib.hid g14
                clear g14 d4
                go_wp2
                go_roundw
                case rel =>
                  refine ⟨j + 1, v14, by go_num, by omega, Lib.hid ?_⟩
                  have h := G14.out
                  rw [take_snoc HXK.out, List.map_append, ← List.append_assoc]
                  exact h
                case measure => simp [intOf]; omega
              · obtain rfl : j = n2 := by omega
                have G15 : Hid (rgone base w1 g v (bitN bs) Z wr v13 (P2 ++ l2.map (fun x => (turnN x 4, 4)))) := Lib.hid (by
                  have h := G13.out
                  rw [List.take_of_length_le (by rw [HL2.out]; omega)] at h
                  exact h)
                clear G13
                go_wp2
                go_ret
                refine ⟨rfl, v13, ?_⟩
                have h := HE.out _ _ _ G15.out
                rw [HP2.out, HP.out] at h
                simpa using h
end
end Go.Proofs.YtgbdecnaamlekaaDoor.Mc
namespace Go.Proofs.YtgbdecnaamlekaaDoor.Md
open Go.RowKit Go.Proofs.YtgbdecnaamlekaaDoor.Vm Go.Proofs.YtgbdecnaamlekaaDoor.Vo Go.Proofs.YtgbdecnaamlekaaDoor.Bm Go.Proofs.YtgbdecnaamlekaaDoor.Bt Go.Proofs.YtgbdecnaamlekaaDoor.Bw Go.Proofs.YtgbdecnaamlekaaDoor.Bp Go.Proofs.YtgbdecnaamlekaaDoor.Bs Go.Proofs.YtgbdecnaamlekaaDoor.Bv Go.Proofs.YtgbdecnaamlekaaDoor.Bx Go.Proofs.YtgbdecnaamlekaaDoor.Na Go.Proofs.YtgbdecnaamlekaaDoor.Nf Go.Proofs.YtgbdecnaamlekaaDoor.Nm Go.Proofs.YtgbdecnaamlekaaDoor.Ni Go.Proofs.YtgbdecnaamlekaaDoor.Ne Go.Proofs.YtgbdecnaamlekaaDoor.Nh Go.Proofs.YtgbdecnaamlekaaDoor.Pm Go.Proofs.YtgbdecnaamlekaaDoor.Pw Go.Proofs.YtgbdecnaamlekaaDoor.Pi Go.Proofs.YtgbdecnaamlekaaDoor.Ko Go.Proofs.YtgbdecnaamlekaaDoor.Ka Go.Proofs.YtgbdecnaamlekaaDoor.Kb Go.Proofs.YtgbdecnaamlekaaDoor.Km Go.Proofs.YtgbdecnaamlekaaDoor.Kw Go.Proofs.YtgbdecnaamlekaaDoor.Ks Go.Proofs.YtgbdecnaamlekaaDoor.Kc Go.Proofs.YtgbdecnaamlekaaDoor.Kd Go.Proofs.YtgbdecnaamlekaaDoor.Ke Go.Proofs.YtgbdecnaamlekaaDoor.Ky Go.Proofs.YtgbdecnaamlekaaDoor.Kx Go.Proofs.YtgbdecnaamlekaaDoor.Ku Go.Proofs.YtgbdecnaamlekaaDoor.Kh Go.Proofs.YtgbdecnaamlekaaDoor.Be Go.Proofs.YtgbdecnaamlekaaDoor.Ki Go.Proofs.YtgbdecnaamlekaaDoor.Kl Go.Proofs.YtgbdecnaamlekaaDoor.Kn Go.Proofs.YtgbdecnaamlekaaDoor.Ma Go.Proofs.YtgbdecnaamlekaaDoor.Mb Go.Proofs.YtgbdecnaamlekaaDoor.Mc

section
variable {base : Nat} {w : World} {g z0 : Nat} {v : Value} {bs : List UInt8} {b : Bool} {k z : Int} {A1 A2 : Option Addr} {n1 c1 n2 c2 : Nat} {f1 f2 : Nat → Int}
theorem rWrite_any (HW : Hid (rw' base w g v bs)) (hz0 : bs.length = z0) (hb : base ≤ w.heap.size) (hz : z0 ≤ 1000000) (HR : Hid (∀ x, Only (own g v) w x → row x A1 n1 f1 ∧ row x A2 n2 f2)) :
    Calls Tryd.prog 23 #[.pointer (some ⟨g, 0, none⟩), hv b k z (.slice A1 n1 c1) (.slice A2 n2 c2)] w fun e w' => e = .returned (.int .i64 (wrM k z n1 f1 n2 f2)) ∧ ∃ v', rgone base w g v (bitN bs) z0 w' v' (wrO b k z n1 f1 n2 f2 z0) := by
  have HS : ∀ w', Below w.heap.size w w' → rgone base w g v (bitN bs) z0 w' v [] := fun w' hw => by
    have := (rgone.start HW.out hb).below hw
    rw [hz0] at this
    exact this
  have hno : wrM k z n1 f1 n2 f2 ≠ 0 → wrO b k z n1 f1 n2 f2 z0 = [] := fun h => by unfold wrO; rw [if_neg h]
  by_cases hbad : k < 0 ∨ 2 < k ∨ (k = 0 ∧ z < 0) ∨ (k = 0 ∧ 0 ≤ z ∧ 65535 < z) ∨ (k = 2 ∧ n1 < 257) ∨ (k = 2 ∧ 257 ≤ n1 ∧ 286 < n1) ∨ (k = 2 ∧ 257 ≤ n1 ∧ n1 ≤ 286 ∧ n2 < 1) ∨ (k = 2 ∧ 257 ≤ n1 ∧ n1 ≤ 286 ∧ 1 ≤ n2 ∧ 30 < n2)
  · have h1 : wrM k z n1 f1 n2 f2 = 1 := by
      unfold wrM
      by_cases c1 : k < 0 ∨ 2 < k ∨ k = 0 ∧ (z < 0 ∨ 65535 < z)
      · rw [if_pos c1]
      · rw [if_neg c1, if_pos (by omega), if_pos (by omega)]
    rw [hno (by rw [h1]; decide), h1]
    exact (rWrite_no hbad).mono (fun e w' ⟨he, hb'⟩ => ⟨he, v, HS w' hb'⟩)
  · rcases (show k = 0 ∨ k = 1 ∨ k = 2 by omega) with hk | hk | hk
    · subst hk
      obtain ⟨n, rfl⟩ := Int.eq_ofNat_of_zero_le (show 0 ≤ z by omega)
      have h0 : wrM 0 (n : Int) n1 f1 n2 f2 = 0 := by unfold wrM; rw [if_neg (by omega), if_neg (by omega)]
      have ho : wrO b 0 (n : Int) n1 f1 n2 f2 z0 = [(b.toNat, 1), (0, 2), (0, padZ (z0 + 3)), (n, 16), (65535 - n, 16)] := by
        unfold wrO; rw [if_pos h0]; rfl
      rw [h0, ho]
      exact rWrite_sto (by omega) HW hz0 hb hz
    · subst hk
      have h0 : wrM 1 z n1 f1 n2 f2 = 0 := by unfold wrM; rw [if_neg (by omega), if_neg (by omega)]
      have ho : wrO b 1 z n1 f1 n2 f2 z0 = [(b.toNat, 1), (1, 2)] := by
        unfold wrO; rw [if_pos h0]; rfl
      rw [h0, ho]
      exact rWrite_fix HW hz0 hb hz
    · subst hk
      have h0 : wrM 2 z n1 f1 n2 f2 = fitsI n1 f1 n2 f2 := by unfold wrM; rw [if_neg (by omega), if_pos rfl, if_neg (by omega)]
      by_cases hf : fitsI n1 f1 n2 f2 = 0
      · obtain ⟨_, _, _, _, hdy⟩ := wr_ok (kind := 2) (size := z) (n := n1) (f := f1) (m := n2) (g := f2) b (h0.trans hf)
        obtain ⟨q1, q2, q3, q4, q5, q6⟩ := hdy rfl
        have ho : wrO b 2 z n1 f1 n2 f2 z0 = [(b.toNat, 1), (2, 2)] ++ outD (L n1 f1) (L n2 f2) := by
          unfold wrO; rw [if_pos (h0.trans hf)]; rfl
        rw [h0.trans hf, ho]
        exact rWrite_dyn q3 q4 q5 q6 q1 q2 hf HW hz0 hb hz HR
      · rw [hno (by rw [h0]; exact hf), h0]
        have hr := HR.out w (Only.refl _ _)
        refine (rWrite_unfit (by omega) (by omega) (by omega) (by omega) hf (Lib.hid (fun u hu => rfits_any (by omega) (by omega) (by omega) (Lib.hid (hr.1.below hu)) (Lib.hid (hr.2.below hu))))).mono (fun e w' ⟨he, hb'⟩ => ⟨he, v, HS w' hb'⟩)
end
end Go.Proofs.YtgbdecnaamlekaaDoor.Md
