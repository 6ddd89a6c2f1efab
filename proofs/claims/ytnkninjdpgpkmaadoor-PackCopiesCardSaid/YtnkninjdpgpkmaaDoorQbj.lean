/-
  block.unwritable: what is wrong of a head that is to be written; block.writeLengths: a dynamic head's lengths written.
  block.writeLengths: a dynamic head's lengths written.
  block.Write: what it answers, and what is written.
  The packer's writer and its codes in memory; wordOf, newCode, newCodes: their results.
  The packer's codes: newCodes; write: a symbol of a code is written, its word kept.
  Conditions: as each theorem says.
-/
import Derived.Test.YtnkninjdpgpkmaaDoorQbe
import Derived.Test.YtnkninjdpgpkmaaDoorQaz
import Derived.Test.YtnkninjdpgpkmaaDoorQbi
import Derived.Test.YtnkninjdpgpkmaaDoorQav
import Derived.Deep.RegionHeld3
import Derived.StillTailTactics
namespace Go.Proofs.YtnkninjdpgpkmaaDoor.Ki
open Go.RowKit Go.Proofs.YtnkninjdpgpkmaaDoor.Vm Go.Proofs.YtnkninjdpgpkmaaDoor.Vo Go.Proofs.YtnkninjdpgpkmaaDoor.Bm Go.Proofs.YtnkninjdpgpkmaaDoor.Bt Go.Proofs.YtnkninjdpgpkmaaDoor.Bw Go.Proofs.YtnkninjdpgpkmaaDoor.Bp Go.Proofs.YtnkninjdpgpkmaaDoor.Bs Go.Proofs.YtnkninjdpgpkmaaDoor.Bv Go.Proofs.YtnkninjdpgpkmaaDoor.Bx Go.Proofs.YtnkninjdpgpkmaaDoor.Na Go.Proofs.YtnkninjdpgpkmaaDoor.Nf Go.Proofs.YtnkninjdpgpkmaaDoor.Nm Go.Proofs.YtnkninjdpgpkmaaDoor.Ni Go.Proofs.YtnkninjdpgpkmaaDoor.Ne Go.Proofs.YtnkninjdpgpkmaaDoor.Nh Go.Proofs.YtnkninjdpgpkmaaDoor.Pm Go.Proofs.YtnkninjdpgpkmaaDoor.Pw Go.Proofs.YtnkninjdpgpkmaaDoor.Pi Go.Proofs.YtnkninjdpgpkmaaDoor.Ko Go.Proofs.YtnkninjdpgpkmaaDoor.Ka Go.Proofs.YtnkninjdpgpkmaaDoor.Kb Go.Proofs.YtnkninjdpgpkmaaDoor.Km Go.Proofs.YtnkninjdpgpkmaaDoor.Kw Go.Proofs.YtnkninjdpgpkmaaDoor.Ks Go.Proofs.YtnkninjdpgpkmaaDoor.Kc Go.Proofs.YtnkninjdpgpkmaaDoor.Kd Go.Proofs.YtnkninjdpgpkmaaDoor.Ke Go.Proofs.YtnkninjdpgpkmaaDoor.Ky Go.Proofs.YtnkninjdpgpkmaaDoor.Kx Go.Proofs.YtnkninjdpgpkmaaDoor.Ku Go.Proofs.YtnkninjdpgpkmaaDoor.Kh

section
variable {w : World} {b : Bool} {k z : Int} {A1 A2 : Option Addr} {n1 c1 n2 c2 : Nat} {f1 f2 : Nat → Int}
set_option maxRecDepth 100000 in
theorem unwritable_sto (HR : k = 0) : Calls Tryd.prog 42 #[hv b k z (.slice A1 n1 c1) (.slice A2 n2 c2)] w fun e w' => e = .returned (.int .i64 (wrM k z n1 f1 n2 f2)) ∧ Below w.heap.size w w' := by
  subst HR
  by_cases h1 : z < 0
  · have HS := Lib.hid (show wrM 0 z n1 f1 n2 f2 = 1 by unfold wrM; rw [if_pos (by omega)])
    go_enter Tryd.func42, Tryd.ntmps42
    go_wp2
    go_ret
    exact ⟨ret_i64 HS.out.symm, below_alloc _ _⟩
  · by_cases h2 : 65535 < z
    · have HS := Lib.hid (show wrM 0 z n1 f1 n2 f2 = 1 by unfold wrM; rw [if_pos (by omega)])
      go_enter Tryd.func42, Tryd.ntmps42
      go_wp2
      go_ret
      exact ⟨ret_i64 HS.out.symm, below_alloc _ _⟩
    · have HS := Lib.hid (show wrM 0 z n1 f1 n2 f2 = 0 by unfold wrM; rw [if_neg (by omega), if_neg (by omega)])
      go_enter Tryd.func42, Tryd.ntmps42
      go_wp2
      go_ret
      exact ⟨ret_i64 HS.out.symm, below_alloc _ _⟩
set_option maxRecDepth 100000 in
theorem unwritable_fix (HR : k = 1) : Calls Tryd.prog 42 #[hv b k z (.slice A1 n1 c1) (.slice A2 n2 c2)] w fun e w' => e = .returned (.int .i64 (wrM k z n1 f1 n2 f2)) ∧ Below w.heap.size w w' := by
  subst HR
  have HS := Lib.hid (show wrM 1 z n1 f1 n2 f2 = 0 by unfold wrM; rw [if_neg (by omega), if_neg (by omega)])
  go_enter Tryd.func42, Tryd.ntmps42
  go_wp2
  go_ret
  exact ⟨ret_i64 HS.out.symm, below_alloc _ _⟩
set_option maxRecDepth 100000 in
theorem unwritable_no (h : k < 0 ∨ 2 < k) : Calls Tryd.prog 42 #[hv b k z (.slice A1 n1 c1) (.slice A2 n2 c2)] w fun e w' => e = .returned (.int .i64 (wrM k z n1 f1 n2 f2)) ∧ Below w.heap.size w w' := by
  have HS := Lib.hid (show wrM k z n1 f1 n2 f2 = 1 by unfold wrM; rw [if_pos (by omega)])
  have h0 : (k == 0) = false := by simp; omega
  have h1 : (k == 1) = false := by simp; omega
  have h2 : (k == 2) = false := by simp; omega
  clear h
  go_enter Tryd.func42, Tryd.ntmps42
  go_wp2
  go_ret
  exact ⟨ret_i64 HS.out.symm, below_alloc _ _⟩
set_option maxRecDepth 100000 in
theorem unwritable_dyn (hk : k = 2) (hn1 : n1 ≤ 9223372036854775807) (hn2 : n2 ≤ 9223372036854775807) (R1 : Hid (row w A1 n1 f1)) (R2 : Hid (row w A2 n2 f2)) :
    Calls Tryd.prog 42 #[hv b k z (.slice A1 n1 c1) (.slice A2 n2 c2)] w fun e w' => e = .returned (.int .i64 (wrM k z n1 f1 n2 f2)) ∧ Below w.heap.size w w' := by
  subst hk
  by_cases hb : n1 < 257 ∨ 286 < n1 ∨ n2 < 1 ∨ 30 < n2
  · have HS := Lib.hid (show wrM 2 z n1 f1 n2 f2 = 1 by unfold wrM; rw [if_neg (by omega), if_pos rfl, if_pos hb])
    clear R1 R2
    rcases (show (n1 < 257) ∨ (257 ≤ n1 ∧ 286 < n1) ∨ (257 ≤ n1 ∧ n1 ≤ 286 ∧ n2 < 1) ∨ (257 ≤ n1 ∧ n1 ≤ 286 ∧ 1 ≤ n2 ∧ 30 < n2) by omega) with h | ⟨h, h'⟩ | ⟨h, h', h2⟩ | ⟨h, h', h2, h3⟩
    all_goals
      clear hb
      go_enter Tryd.func42, Tryd.ntmps42
      go_wp2
      go_ret
      exact ⟨ret_i64 HS.out.symm, below_alloc _ _⟩
  · have HS := Lib.hid (show wrM 2 z n1 f1 n2 f2 = fitsI n1 f1 n2 f2 by unfold wrM; rw [if_neg (by omega), if_pos rfl, if_neg hb])
    have h1 : 257 ≤ n1 := by omega
    have h1' : n1 ≤ 286 := by omega
    have h2 : 1 ≤ n2 := by omega
    have h2' : n2 ≤ 30 := by omega
    clear hb
    have HU := fun u (hu : Below w.heap.size w u) => Lib.hid (unfit_any (c1 := c1) (c2 := c2) h1 hn1 hn2 (Lib.hid (R1.out.below hu)) (Lib.hid (R2.out.below hu)))
    obtain ⟨y, hy⟩ : ∃ y, y = fitsI n1 f1 n2 f2 := ⟨_, rfl⟩
    rw [← hy] at HU HS
    clear hy R1 R2
    go_enter Tryd.func42, Tryd.ntmps42
    go_wp2_with fail
    refine (HU _ (below_alloc _ _)).out.mono ?_
    rintro e w1 ⟨rfl, b1⟩
    go_wp2
    go_ret
    exact ⟨ret_i64 HS.out.symm, grows (below_alloc _ _) b1⟩
theorem unwritable_any (hn1 : n1 ≤ 9223372036854775807) (hn2 : n2 ≤ 9223372036854775807) (R1 : Hid (row w A1 n1 f1)) (R2 : Hid (row w A2 n2 f2)) :
    Calls Tryd.prog 42 #[hv b k z (.slice A1 n1 c1) (.slice A2 n2 c2)] w fun e w' => e = .returned (.int .i64 (wrM k z n1 f1 n2 f2)) ∧ Below w.heap.size w w' := by
  rcases (show k = 0 ∨ k = 1 ∨ k = 2 ∨ (k < 0 ∨ 2 < k) by omega) with h | h | h | h
  · exact unwritable_sto h
  · exact unwritable_fix h
  · exact unwritable_dyn h hn1 hn2 R1 R2
  · exact unwritable_no h
end

theorem upto_L {n : Nat} {f : Nat → Int} (h : ∀ i, i < n → 0 ≤ f i ∧ f i ≤ 15) : upto n f = ofN (L n f) := by
  refine List.ext_getElem? (fun i => ?_)
  by_cases hi : i < n
  · rw [upto_get f hi, at_get (l := ofN (L n f)) (by rw [ofN_length, L_length]; exact hi), ofN_at]
    unfold ix
    rw [← L_eq h hi]
  · rw [List.getElem?_eq_none (by rw [upto_length]; omega), List.getElem?_eq_none (by rw [ofN_length, L_length]; omega)]
def S2 (a b : Option Addr) : Nat → Option Addr | 0 => a | _ => b
def N2 (a b : Nat) : Nat → Nat | 0 => a | _ => b
def F2 (f g : Nat → Int) : Nat → Nat → Int | 0 => f | _ => g
theorem cat2 (a b : Nat) (f g : Nat → Int) : cat (N2 a b) (F2 f g) 2 = upto a f ++ upto b g := by
  show ([] ++ upto a f) ++ upto b g = _
  rw [List.nil_append]
theorem cat_c4 : cat (N2 16 3) (F2 (fun _ => 4) (fun _ => 0)) 2 = ofN C4 := by
  rw [cat2, upto_const, upto_const]; rfl
/-- Two lists in memory, as slices.Concat takes them. -/
theorem lists2 {w : World} {A B : Option Addr} {n m c d : Nat} {f g : Nat → Int} (h1 : row w A n f) (h2 : row w B m g) :
    lists (w.alloc (.cells #[.slice A n c, .slice B m d] 36)) w.heap.size 2 (S2 A B) (N2 n m) (N2 c d) (F2 f g) := by
  have kb := Blk.fresh w 36 #[.slice A n c, .slice B m d]
  refine ⟨by rw [size_alloc]; omega, fun i hi => ?_⟩
  rw [kb.cell]
  rcases (show i = 0 ∨ i = 1 by omega) with rfl | rfl
  · exact ⟨rfl, h1.below (below_alloc _ _)⟩
  · exact ⟨rfl, h2.below (below_alloc _ _)⟩
theorem ints_row {w : World} {base : Nat} {v : Value} {l : List Nat} (h : ints w base 3 v (ofN l)) : ∃ A c, v = .slice A l.length c ∧ row w A l.length (ix l) := by
  obtain ⟨A, c, e⟩ := ints.form h
  rw [ofN_length] at e
  subst e
  have := ints.row h
  rw [ofN_length] at this
  exact ⟨A, c, rfl, this.congr (fun i _ => ofN_at l i)⟩
theorem take_snoc {α : Type} {l : List α} {k : Nat} {x : α} (h : l[k]? = some x) : l.take (k + 1) = l.take k ++ [x] := by
  rw [List.take_add_one, h]; rfl
theorem nth_get {l : List Nat} {k : Nat} (h : k < l.length) : l[k]? = some (nth l k) := by
  unfold nth; rw [List.getD_eq_getElem?_getD, List.getElem?_eq_getElem h]; rfl
/-- A row of the call's own, made when the writer was there, stays under it. -/
theorem ints_stay {base : Nat} {w0 w1 x : World} {g : Nat} {v v6 : Value} {bs : List UInt8} {z : Nat} {l : List Int} (t : wt base w0 g v bs z) (h : ints w1 w0.heap.size 3 v6 l) (o : Only (own g v) w1 x) : ints x w0.heap.size 3 v6 l :=
  h.only o (fun i hi e => by
    have hl := (h.lo i hi).1
    rcases e with e | e
    · have : i < w0.heap.size := by rw [e]; exact Blk.lt t.b
      omega
    · have := (t.o.lt i e).2
      omega)
end Go.Proofs.YtnkninjdpgpkmaaDoor.Ki
namespace Go.Proofs.YtnkninjdpgpkmaaDoor.Kj
open Go.RowKit Go.Proofs.YtnkninjdpgpkmaaDoor.Vm Go.Proofs.YtnkninjdpgpkmaaDoor.Vo Go.Proofs.YtnkninjdpgpkmaaDoor.Bm Go.Proofs.YtnkninjdpgpkmaaDoor.Bt Go.Proofs.YtnkninjdpgpkmaaDoor.Bw Go.Proofs.YtnkninjdpgpkmaaDoor.Bp Go.Proofs.YtnkninjdpgpkmaaDoor.Bs Go.Proofs.YtnkninjdpgpkmaaDoor.Bv Go.Proofs.YtnkninjdpgpkmaaDoor.Bx Go.Proofs.YtnkninjdpgpkmaaDoor.Na Go.Proofs.YtnkninjdpgpkmaaDoor.Nf Go.Proofs.YtnkninjdpgpkmaaDoor.Nm Go.Proofs.YtnkninjdpgpkmaaDoor.Ni Go.Proofs.YtnkninjdpgpkmaaDoor.Ne Go.Proofs.YtnkninjdpgpkmaaDoor.Nh Go.Proofs.YtnkninjdpgpkmaaDoor.Pm Go.Proofs.YtnkninjdpgpkmaaDoor.Pw Go.Proofs.YtnkninjdpgpkmaaDoor.Pi Go.Proofs.YtnkninjdpgpkmaaDoor.Ko Go.Proofs.YtnkninjdpgpkmaaDoor.Ka Go.Proofs.YtnkninjdpgpkmaaDoor.Kb Go.Proofs.YtnkninjdpgpkmaaDoor.Km Go.Proofs.YtnkninjdpgpkmaaDoor.Kw Go.Proofs.YtnkninjdpgpkmaaDoor.Ks Go.Proofs.YtnkninjdpgpkmaaDoor.Kc Go.Proofs.YtnkninjdpgpkmaaDoor.Kd Go.Proofs.YtnkninjdpgpkmaaDoor.Ke Go.Proofs.YtnkninjdpgpkmaaDoor.Ky Go.Proofs.YtnkninjdpgpkmaaDoor.Kx Go.Proofs.YtnkninjdpgpkmaaDoor.Ku Go.Proofs.YtnkninjdpgpkmaaDoor.Kh Go.Proofs.YtnkninjdpgpkmaaDoor.Ki

section
variable {base : Nat} {U w : World} {g N z : Nat} {u v : Value} {l : List (Nat × Nat)} {A1 A2 : Option Addr} {n1 c1 n2 c2 : Nat} {f1 f2 : Nat → Int}
set_option maxHeartbeats 2000000 in
set_option maxRecDepth 100000 in
theorem writeLengths_any (h : gone base U g u N z w v l) (hz : z + bl l ≤ 562949953410000) (HR : Hid (∀ x, Only (own g v) w x → row x A1 n1 f1 ∧ row x A2 n2 f2 ∧ ordM x))
    (h1 : 257 ≤ n1) (h1' : n1 ≤ 286) (h2 : 1 ≤ n2) (h2' : n2 ≤ 30) (hf1 : ∀ i, i < n1 → 0 ≤ f1 i ∧ f1 i ≤ 15) (hf2 : ∀ i, i < n2 → 0 ≤ f2 i ∧ f2 i ≤ 15) :
    Calls Tryd.prog 45 #[.pointer (some ⟨g, 0, none⟩), .slice A1 n1 c1, .slice A2 n2 c2] w fun e w' => e = .returned (.tuple #[]) ∧ ∃ v', gone base U g u N z w' v' (l ++ outD (L n1 f1) (L n2 f2)) := by
  obtain ⟨X, hX⟩ : ∃ X, X = L n1 f1 ++ L n2 f2 := ⟨_, rfl⟩
  have HXL : Hid (X.length = n1 + n2) := Lib.hid (by rw [hX, List.length_append, L_length, L_length])
  have HX16 : Hid (∀ x ∈ X, x < 16) := Lib.hid (by
    intro x hx
    rw [hX] at hx
    rcases List.mem_append.1 hx with hx | hx
    · exact L_mem hf1 x hx
    · exact L_mem hf2 x hx)
  have HXC : Hid (cat (N2 n1 n2) (F2 f1 f2) 2 = ofN X) := Lib.hid (by rw [cat2, upto_L hf1, upto_L hf2, hX, ofN_append])
  have HXO : Hid (outD (L n1 f1) (L n2 f2) = [(n1 - 257, 5), (n2 - 1, 5), (15, 4)] ++ ords.map (fun o => (c4 o, 3)) ++ X.map (fun x => (turnN x 4, 4))) := Lib.hid (by
    unfold outD; rw [L_length, L_length, hX])
  rw [HXO.out]
  obtain ⟨bs, t0, e0⟩ := h.t
  have HT0 := Lib.hid t0
  have HE0 := Lib.hid e0
  have H := Lib.hid h
  obtain ⟨Z, hZ⟩ : ∃ Z, Z = z + bl l := ⟨_, rfl⟩
  have HZ := Lib.hid hZ
  rw [← hZ] at HT0 hz
  clear hX hf1 hf2 t0 e0 h hZ
  go_enter Tryd.func45, Tryd.ntmps45
  go_wp2_with fail
  refine (equal_any 4 (n := 16) 16 rfl (by omega) (by omega) w).mono ?_
  rintro e w1 ⟨g1, rfl, k1, p1, b1⟩
  have K1 := Lib.hid k1; have B1 := Lib.hid b1; clear k1 b1 p1
  go_wp2_with fail
  refine (equal_any 0 (n := 3) 3 rfl (by omega) (by omega) w1).mono ?_
  rintro e w2 ⟨g2, rfl, k2, p2, b2⟩
  have K2 := Lib.hid k2; have B2 := Lib.hid b2; clear k2 b2 p2
  go_wp2_with fail
  have HL2 := Lib.hid (lists2 (c := 16) (d := 3) (row_of_blk (K1.out.below B2.out)) (row_of_blk K2.out))
  have B3 : Hid (Below w2.heap.size w2 (w2.alloc (.cells #[.slice (some ⟨g1, 0, none⟩) 16 16, .slice (some ⟨g2, 0, none⟩) 3 3] 36))) := Lib.hid (below_alloc _ _)
  obtain ⟨w3, hw3⟩ : ∃ w3, w3 = w2.alloc (.cells #[.slice (some ⟨g1, 0, none⟩) 16 16, .slice (some ⟨g2, 0, none⟩) 3 3] 36) := ⟨_, rfl⟩
  rw [← hw3] at HL2 B3 ⊢
  clear hw3
  have HB3 : Hid (Below w.heap.size w w3) := Lib.hid (grows (grows B1.out B2.out) B3.out)
  refine (Concat_any (k := 2) (by omega) (by rw [cat_c4, ofN_length]; decide) (by rw [cat_c4, ofN_length]; decide) HL2).mono ?_
  rintro e w6 ⟨v6, rfl, k6, b6⟩
  rw [cat_c4] at k6
  obtain ⟨A6, c6, hv6, _⟩ := ints_row k6
  have hv6' : v6 = .slice A6 19 c6 := hv6
  subst hv6'
  have T3 : Hid (wt base w3 g v bs Z) := Lib.hid (wt_below HT0.out HB3.out)
  have HB6 : Hid (Below w.heap.size w w6) := Lib.hid (grows HB3.out b6)
  -- the code's row stays
  have R6 : Hid (∀ x, Only (own g v) w6 x → row x A6 19 c4') := Lib.hid (fun x o => by
    have h := ints_row (ints_stay T3.out k6 o)
    obtain ⟨A, c, e, r⟩ := h
    injection e with e _ _
    subst e
    exact r.congr (fun i hi => by unfold ix c4'; rw [C4_nth i hi]))
  have HR6 : Hid (∀ x, Only (own g v) w6 x → row x A1 n1 f1 ∧ row x A2 n2 f2 ∧ ordM x) := Lib.hid (fun x o => HR.out x ((Only.of_below HB6.out).trans o))
  have G6 : Hid (gone base w6 g v (num bs) Z w6 v []) := Lib.hid (gone.start (wt_below T3.out b6) (Nat.le_trans H.out.size HB6.out.size))
  have H6 : Hid (gone base U g u N z w6 v l) := Lib.hid (H.out.below HB6.out)
  clear HL2 K1 K2 B1 B2 B3 k6 b6 hv6 T3 HR HT0 HB3 H HB6
  go_wp2_with fail
  refine (G6.out.put (y := n1 - 257) (m := 5) (by omega) rfl (by omega) (by omega) (by simp [bl]; omega)).mono ?_
  rintro e w7 ⟨rfl, v7, g7⟩
  have G7 := Lib.hid g7; clear g7
  go_wp2_with fail
  refine (G7.out.put (y := n2 - 1) (m := 5) (by omega) rfl (by omega) (by omega) (by simp [bl]; omega)).mono ?_
  rintro e w8 ⟨rfl, v8, g8⟩
  have G8 := Lib.hid g8; clear g8
  go_wp2_with fail
  refine (G8.out.put (y := 15) (m := 4) (by omega) rfl (by omega) (by omega) (by simp [bl]; omega)).mono ?_
  rintro e w9 ⟨rfl, v9, g9⟩
  have G9 : Hid (gone base w6 g v (num bs) Z w9 v9 [(n1 - 257, 5), (n2 - 1, 5), (15, 4)]) := Lib.hid g9
  clear g9 G7 G8
  go_wp2_with fail
  go_loopw [29, 7] (fun s29 _ wr => ∃ (k : Nat) (v' : Value), s29 = .int .i64 (k : Int) ∧ k ≤ 19 ∧ Hid (gone base w6 g v (num bs) Z wr v' ([(n1 - 257, 5), (n2 - 1, 5), (15, 4)] ++ (ords.take k).map (fun o => (c4 o, 3))))) (fun s29 _ _ => 19 - (intOf s29).toNat)
  case atStart => exact ⟨0, v9, rfl, by omega, Lib.hid (by simpa using G9.out)⟩
  case round =>
    obtain ⟨k, v10, rfl, hk, G10⟩ := hrel
    by_cases hk19 : k < 19
    · obtain ⟨o, ho⟩ : ∃ o, o = ord k := ⟨_, rfl⟩
      have ho19 : o < 19 := by rw [ho]; exact ord_lt k hk19
      have HO := Lib.hid ho
      have o1 := (HR6.out wr G10.out.o).2.2.2 k hk19
      rw [← ho] at o1
      obtain ⟨b6, off6, hA6, hb6, o2⟩ := R6.out wr G10.out.o o ho19
      subst hA6
      obtain ⟨q, hq⟩ : ∃ q, q = c4 o := ⟨_, rfl⟩
      have hq8 : q < 8 := by rw [hq]; unfold c4; split <;> omega
      have HQ := Lib.hid hq
      rw [show c4' o = (q : Int) by rw [hq]; rfl] at o2
      have hbl : Hid (bl ([(n1 - 257, 5), (n2 - 1, 5), (15, 4)] ++ (ords.take k).map (fun o => (c4 o, 3))) ≤ 100) := Lib.hid (by
        rw [bl_append, bl_map, List.length_take, ords_length]; simp only [bl]; omega)
      clear ho hq
      go_wp2_with fail
      refine (G10.out.put (y := q) (m := 3) rfl rfl (by omega) (by omega) (by have := hbl.out; omega)).mono ?_
      rintro e w11 ⟨rfl, v11, g11⟩
      have G11 := Lib.hid g11; clear g11
      go_wp2
      go_roundw
      case rel =>
        refine ⟨k + 1, v11, by go_num, by omega, Lib.hid ?_⟩
        have e : ords[k]? = some o := by rw [HO.out]; exact nth_get hk19
        have h := G11.out
        rw [take_snoc e, List.map_append, ← List.append_assoc]
        rw [HQ.out] at h
        exact h
      case measure => simp [intOf]; omega
    · obtain rfl : k = 19 := by omega
      have G11 : Hid (gone base w6 g v (num bs) Z wr v10 ([(n1 - 257, 5), (n2 - 1, 5), (15, 4)] ++ ords.map (fun o => (c4 o, 3)))) := Lib.hid (by
        have h := G10.out
        rw [List.take_of_length_le (by rw [ords_length]; omega)] at h
        exact h)
      clear G10
      go_wp2_with fail
      obtain ⟨r1, r2, _⟩ := HR6.out wr G11.out.o
      have HL2 := Lib.hid (lists2 (c := c1) (d := c2) r1 r2)
      have B3 : Hid (Below wr.heap.size wr (wr.alloc (.cells #[.slice A1 n1 c1, .slice A2 n2 c2] 36))) := Lib.hid (below_alloc _ _)
      obtain ⟨w12, hw12⟩ : ∃ w3, w3 = wr.alloc (.cells #[.slice A1 n1 c1, .slice A2 n2 c2] 36) := ⟨_, rfl⟩
      rw [← hw12] at HL2 B3 ⊢
      clear hw12 r1 r2
      refine (Concat_any (k := 2) (by omega) (by rw [HXC.out, ofN_length, HXL.out]; omega) (by rw [HXC.out, ofN_length, HXL.out]; omega) HL2).mono ?_
      rintro e w13 ⟨v13, rfl, k13, b13⟩
      rw [HXC.out] at k13
      obtain ⟨A13, c13, hv13, _⟩ := ints_row k13
      rw [HXL.out] at hv13
      subst hv13
      have G12 : Hid (gone base w6 g v (num bs) Z w12 v10 ([(n1 - 257, 5), (n2 - 1, 5), (15, 4)] ++ ords.map (fun o => (c4 o, 3)))) := Lib.hid (G11.out.below B3.out)
      have G13 : Hid (gone base w6 g v (num bs) Z w13 v10 ([(n1 - 257, 5), (n2 - 1, 5), (15, 4)] ++ ords.map (fun o => (c4 o, 3)))) := Lib.hid (G12.out.below b13)
      obtain ⟨bs12, t12, e12⟩ := G12.out.t
      have R13 : Hid (∀ x, Only (own g v10) w13 x → row x A13 (n1 + n2) (ix X)) := Lib.hid (fun x o => by
        obtain ⟨A, c, e, r⟩ := ints_row (ints_stay t12 k13 o)
        injection e with e _ _
        subst e
        rw [HXL.out] at r
        exact r)
      have HBL : Hid (bl ([(n1 - 257, 5), (n2 - 1, 5), (15, 4)] ++ ords.map (fun o => (c4 o, 3))) = 71) := Lib.hid (by rw [bl_append, bl_map, ords_length]; simp only [bl])
      have G14 : Hid (gone base w13 g v10 (num bs12) (Z + 71) w13 v10 []) := Lib.hid (by
        rw [HBL.out] at t12
        exact gone.start (wt_below t12 b13) G13.out.size)
      have E12 := Lib.hid e12
      clear HL2 B3 k13 b13 G11 G12 t12 e12 G9 G6
      go_wp2_with fail
      go_loopw [46, 9] (fun s46 _ wr => ∃ (k : Nat) (v' : Value), s46 = .int .i64 (k : Int) ∧ k ≤ n1 + n2 ∧ Hid (gone base w13 g v10 (num bs12) (Z + 71) wr v' ((X.take k).map (fun x => (turnN x 4, 4))))) (fun s46 _ _ => (n1 + n2) - (intOf s46).toNat)
      case atStart => exact ⟨0, v10, rfl, by omega, Lib.hid (by simpa using G14.out)⟩
      case round =>
        obtain ⟨k, v15, rfl, hk, G15⟩ := hrel
        by_cases hkn : k < n1 + n2
        · have hkn' : (k : Int) < (n1 : Int) + (n2 : Int) := by omega
          have hkn'' : (k : Int) < ((n1 + n2 : Nat) : Int) := by omega
          obtain ⟨x, hx⟩ : ∃ x, x = nth X k := ⟨_, rfl⟩
          have hxk : X[k]? = some x := by rw [hx]; exact nth_get (by rw [HXL.out]; exact hkn)
          have hx16 : x < 16 := HX16.out x (List.mem_of_getElem? hxk)
          obtain ⟨b13, off13, hA13, hb13, o1⟩ := R13.out wr G15.out.o k hkn
          subst hA13
          rw [show ix X k = (x : Int) by rw [hx]; rfl] at o1
          have HXK := Lib.hid hxk
          have hbl : Hid (bl ((X.take k).map (fun x => (turnN x 4, 4))) ≤ 4 * 316) := Lib.hid (by
            rw [bl_map, List.length_take, HXL.out]; omega)
          clear hx hxk
          go_wp2_with fail
          refine (G15.out.code (x := x) rfl hx16 (by have := hbl.out; omega) (Lib.hid (fun y o => R6.out y (G13.out.keep (G15.out.keep o))))).mono ?_
          rintro e w16 ⟨rfl, v16, g16⟩
          have G16 := Lib.hid g16; clear g16
          go_wp2
          go_roundw
          case rel =>
            refine ⟨k + 1, v16, by go_num, by omega, Lib.hid ?_⟩
            have h := G16.out
            rw [take_snoc HXK.out, List.map_append]
            exact h
          case measure => simp [intOf]; omega
        · obtain rfl : k = n1 + n2 := by omega
          have hkn' : ¬ ((n1 : Int) + (n2 : Int) < (n1 : Int) + (n2 : Int)) := by omega
          have G17 : Hid (gone base w13 g v10 (num bs12) (Z + 71) wr v15 (X.map (fun x => (turnN x 4, 4)))) := Lib.hid (by
            have h := G15.out
            rw [List.take_of_length_le (by rw [HXL.out]; omega)] at h
            exact h)
          clear G15
          go_wp2
          go_end0
          refine ⟨rfl, v15, ?_⟩
          have h := G13.out.trans G17.out E12.out (by rw [HBL.out])
          exact H6.out.trans h HE0.out HZ.out
end
end Go.Proofs.YtnkninjdpgpkmaaDoor.Kj
namespace Go.Proofs.YtnkninjdpgpkmaaDoor.Kl
open Go.RowKit Go.Proofs.YtnkninjdpgpkmaaDoor.Vm Go.Proofs.YtnkninjdpgpkmaaDoor.Vo Go.Proofs.YtnkninjdpgpkmaaDoor.Bm Go.Proofs.YtnkninjdpgpkmaaDoor.Bt Go.Proofs.YtnkninjdpgpkmaaDoor.Bw Go.Proofs.YtnkninjdpgpkmaaDoor.Bp Go.Proofs.YtnkninjdpgpkmaaDoor.Bs Go.Proofs.YtnkninjdpgpkmaaDoor.Bv Go.Proofs.YtnkninjdpgpkmaaDoor.Bx Go.Proofs.YtnkninjdpgpkmaaDoor.Na Go.Proofs.YtnkninjdpgpkmaaDoor.Nf Go.Proofs.YtnkninjdpgpkmaaDoor.Nm Go.Proofs.YtnkninjdpgpkmaaDoor.Ni Go.Proofs.YtnkninjdpgpkmaaDoor.Ne Go.Proofs.YtnkninjdpgpkmaaDoor.Nh Go.Proofs.YtnkninjdpgpkmaaDoor.Pm Go.Proofs.YtnkninjdpgpkmaaDoor.Pw Go.Proofs.YtnkninjdpgpkmaaDoor.Pi Go.Proofs.YtnkninjdpgpkmaaDoor.Ko Go.Proofs.YtnkninjdpgpkmaaDoor.Ka Go.Proofs.YtnkninjdpgpkmaaDoor.Kb Go.Proofs.YtnkninjdpgpkmaaDoor.Km Go.Proofs.YtnkninjdpgpkmaaDoor.Kw Go.Proofs.YtnkninjdpgpkmaaDoor.Ks Go.Proofs.YtnkninjdpgpkmaaDoor.Kc Go.Proofs.YtnkninjdpgpkmaaDoor.Kd Go.Proofs.YtnkninjdpgpkmaaDoor.Ke Go.Proofs.YtnkninjdpgpkmaaDoor.Ky Go.Proofs.YtnkninjdpgpkmaaDoor.Kx Go.Proofs.YtnkninjdpgpkmaaDoor.Ku Go.Proofs.YtnkninjdpgpkmaaDoor.Kh Go.Proofs.YtnkninjdpgpkmaaDoor.Ki Go.Proofs.YtnkninjdpgpkmaaDoor.Kj

theorem _root_.Go.Proofs.YtnkninjdpgpkmaaDoor.Kh.gone.congr {base : Nat} {U w : World} {g N z : Nat} {u v : Value} {l l' : List (Nat × Nat)} (h : gone base U g u N z w v l) (e1 : bl l = bl l') (e2 : bn l = bn l') : gone base U g u N z w v l' := by
  obtain ⟨bs, t, e⟩ := h.t
  exact ⟨⟨bs, by rw [← e1]; exact t, by rw [← e2]; exact e⟩, h.o, h.a, h.b⟩
/-- What Write writes. -/
def wrO (b : Bool) (k z : Int) (n1 : Nat) (f1 : Nat → Int) (n2 : Nat) (f2 : Nat → Int) (z0 : Nat) : List (Nat × Nat) := if wrM k z n1 f1 n2 f2 = 0 then outM ⟨b, k.toNat, z.toNat, L n1 f1, L n2 f2⟩ z0 else []

section
variable {base : Nat} {w : World} {g z0 : Nat} {v : Value} {bs : List UInt8} {b : Bool} {k z : Int} {A1 A2 : Option Addr} {n1 c1 n2 c2 : Nat} {f1 f2 : Nat → Int}
set_option maxHeartbeats 2000000 in
set_option maxRecDepth 100000 in
theorem Write_any (HW : Hid (wt base w g v bs z0)) (hb : base ≤ w.heap.size) (hz : z0 ≤ 281474976710656) (hn1 : n1 ≤ 9223372036854775807) (hn2 : n2 ≤ 9223372036854775807) (HR : Hid (∀ x, Only (own g v) w x → row x A1 n1 f1 ∧ row x A2 n2 f2 ∧ ordM x)) :
    Calls Tryd.prog 34 #[.pointer (some ⟨g, 0, none⟩), hv b k z (.slice A1 n1 c1) (.slice A2 n2 c2)] w fun e w' => e = .returned (.int .i64 (wrM k z n1 f1 n2 f2)) ∧ ∃ v', gone base w g v (num bs) z0 w' v' (wrO b k z n1 f1 n2 f2 z0) := by
  have b1 : Below w.heap.size w (w.alloc (.cells #[.bool b, .int .i64 k, .int .i64 z, .slice A1 n1 c1, .slice A2 n2 c2] 77)) := below_alloc _ _
  have k1 := Blk.fresh w 77 #[.bool b, .int .i64 k, .int .i64 z, .slice A1 n1 c1, .slice A2 n2 c2]
  obtain ⟨w1, hw1⟩ : ∃ w1, w1 = w.alloc (.cells #[.bool b, .int .i64 k, .int .i64 z, .slice A1 n1 c1, .slice A2 n2 c2] 77) := ⟨_, rfl⟩
  rw [← hw1] at b1 k1
  have B1 := Lib.hid b1
  have HK : Hid (∀ x vx lx, gone base w1 g v (num bs) z0 x vx lx → Blk x w.heap.size 77 #[.bool b, .int .i64 k, .int .i64 z, .slice A1 n1 c1, .slice A2 n2 c2]) := Lib.hid (fun x vx lx h => by
    refine k1.only h.o (fun e => ?_)
    rcases e with e | e
    · have := Blk.lt HW.out.b; omega
    · have := (HW.out.o.lt _ e).2; omega)
  have HR1 : Hid (∀ x vx lx, gone base w1 g v (num bs) z0 x vx lx → ∀ y, Only (own g vx) x y → row y A1 n1 f1 ∧ row y A2 n2 f2 ∧ ordM y) := Lib.hid (fun x vx lx h y o => HR.out y ((Only.of_below B1.out).trans (h.keep o)))
  have G1 : Hid (gone base w1 g v (num bs) z0 w1 v []) := Lib.hid (gone.start (wt_below HW.out b1) (Nat.le_trans hb b1.size))
  have HE : Hid (∀ x vx lx lx', gone base w1 g v (num bs) z0 x vx lx → bl lx = bl lx' → bn lx = bn lx' → gone base w g v (num bs) z0 x vx lx') := Lib.hid (fun x vx lx lx' h e1 e2 => by
    have h0 := (gone.start HW.out hb).below B1.out
    have := h0.trans (h.congr e1 e2) (by simp [bn]) (by simp [bl])
    simpa using this)
  have HO : Hid (∀ x vx lx, gone base w1 g v (num bs) z0 x vx lx → bl lx = bl (wrO b k z n1 f1 n2 f2 z0) → bn lx = bn (wrO b k z n1 f1 n2 f2 z0) → ∃ v', gone base w g v (num bs) z0 x v' (wrO b k z n1 f1 n2 f2 z0)) := Lib.hid (fun x vx lx h e1 e2 => ⟨vx, HE.out x vx lx _ h e1 e2⟩)
  obtain ⟨W, hWO⟩ : ∃ W, W = wrO b k z n1 f1 n2 f2 z0 := ⟨_, rfl⟩
  have HWO := Lib.hid hWO
  rw [← hWO] at HO ⊢
  obtain ⟨er, her⟩ : ∃ er, er = wrM k z n1 f1 n2 f2 := ⟨_, rfl⟩
  have HER := Lib.hid her
  rw [← her]
  have HU : Hid (∀ x, row x A1 n1 f1 → row x A2 n2 f2 → Calls Tryd.prog 42 #[hv b k z (.slice A1 n1 c1) (.slice A2 n2 c2)] x fun e w' => e = .returned (.int .i64 er) ∧ Below x.heap.size x w') := Lib.hid (fun x r1 r2 => by
    rw [her]; exact unwritable_any hn1 hn2 (Lib.hid r1) (Lib.hid r2))
  clear k1 b1 hWO her HR HW HE hn1 hn2 hb
  go_enter Tryd.func34, Tryd.ntmps34
  go_wp2_with fail
  rw [← hw1]
  clear hw1
  refine (G1.out.put (y := 0) (m := 0) rfl rfl (by omega) (by omega) (by simp [bl]; omega)).mono ?_
  rintro e w2 ⟨rfl, v2, g2⟩
  have G2 : Hid (gone base w1 g v (num bs) z0 w2 v2 [(0, 0)]) := Lib.hid g2
  have K2 := Lib.hid (HK.out _ _ _ g2)
  have HR2 := Lib.hid (HR1.out _ _ _ g2 w2 (Only.refl _ _))
  clear g2 G1
  go_wp2_with (refine wpList_load_row rfl 77 _ rfl w.heap.size rfl _ _ _ _ K2.out Tryd.underlying77 rfl sizeH ?_)
  refine (HU.out w2 HR2.out.1 HR2.out.2.1).mono ?_
  rintro e w3 ⟨rfl, b3⟩
  have G3 : Hid (gone base w1 g v (num bs) z0 w3 v2 [(0, 0)]) := Lib.hid (G2.out.below b3)
  clear b3 G2 K2 HR2
  by_cases he : er = 0
  · have hok := wr_ok (kind := k) (size := z) (n := n1) (f := f1) (m := n2) (g := f2) b (HER.out.symm.trans he)
    obtain ⟨_, hk0, hk2, hsz, hdy⟩ := hok
    have HD := Lib.hid hdy
    have HSZ := Lib.hid hsz
    subst he
    have HWO2 : Hid (W = outM ⟨b, k.toNat, z.toNat, L n1 f1, L n2 f2⟩ z0) := Lib.hid (by rw [HWO.out, wrO, if_pos HER.out.symm])
    clear hdy hsz
    have k3 := HK.out _ _ _ G3.out
    have d0 := k3.cell 0
    clear k3
    go_wp2_with fail
    refine (bit_any b w3).mono ?_
    rintro e w' ⟨rfl, hw⟩
    rw [← hw]
    clear hw d0
    go_wp2_with fail
    refine (G3.out.put (y := b.toNat) (m := 1) rfl rfl (by cases b <;> decide) (by omega) (by simp [bl]; omega)).mono ?_
    rintro e w4 ⟨rfl, v4, g4⟩
    have G4 : Hid (gone base w1 g v (num bs) z0 w4 v4 [(0, 0), (b.toNat, 1)]) := Lib.hid g4
    have d1 := (HK.out _ _ _ g4).cell 1
    clear g4 G3
    rcases (show k = 0 ∨ k = 1 ∨ k = 2 by omega) with hk | hk | hk
    · subst hk
      go_wp2_with fail
      refine (G4.out.put (y := 0) (m := 2) rfl rfl (by omega) (by omega) (by simp [bl]; omega)).mono ?_
      rintro e w5 ⟨rfl, v5, g5⟩
      have G5 : Hid (gone base w1 g v (num bs) z0 w5 v5 [(0, 0), (b.toNat, 1), (0, 2)]) := Lib.hid g5
      clear d1
      have d1 := (HK.out _ _ _ g5).cell 1
      have d2 := (HK.out _ _ _ g5).cell 2
      obtain ⟨n, hn⟩ := Int.eq_ofNat_of_zero_le (HSZ.out (by simp)).1
      have hn16 : n ≤ 65535 := by have := (HSZ.out (by simp)).2; omega
      have HN := Lib.hid hn
      clear g5 G4 hn
      go_wp2_with fail
      refine (writeSize_any (n := n) HN.out hn16 G5.out (by simp [bl]; omega)).mono ?_
      rintro e w6 ⟨rfl, v6, g6⟩
      have G6 := Lib.hid g6
      clear d1 d2
      have d1 := (HK.out _ _ _ g6).cell 1
      clear g6
      go_wp2
      go_ret
      refine ⟨rfl, HO.out _ _ _ G6.out ?_ ?_⟩
      all_goals
        rw [HWO2.out, HN.out]
        unfold outM
        simp [bl, bn]
    · subst hk
      go_wp2_with fail
      refine (G4.out.put (y := 1) (m := 2) rfl rfl (by omega) (by omega) (by simp [bl]; omega)).mono ?_
      rintro e w5 ⟨rfl, v5, g5⟩
      have G5 : Hid (gone base w1 g v (num bs) z0 w5 v5 [(0, 0), (b.toNat, 1), (1, 2)]) := Lib.hid g5
      clear d1
      have d1 := (HK.out _ _ _ g5).cell 1
      clear g5 G4
      go_wp2
      go_ret
      refine ⟨rfl, HO.out _ _ _ G5.out ?_ ?_⟩
      all_goals
        rw [HWO2.out]
        unfold outM
        simp [bl, bn]
    · subst hk
      go_wp2_with fail
      refine (G4.out.put (y := 2) (m := 2) rfl rfl (by omega) (by omega) (by simp [bl]; omega)).mono ?_
      rintro e w5 ⟨rfl, v5, g5⟩
      have G5 : Hid (gone base w1 g v (num bs) z0 w5 v5 [(0, 0), (b.toNat, 1), (2, 2)]) := Lib.hid g5
      clear d1
      have d1 := (HK.out _ _ _ g5).cell 1
      have d3 := (HK.out _ _ _ g5).cell 3
      have d4 := (HK.out _ _ _ g5).cell 4
      obtain ⟨q1, q2, q3, q4, q5, q6⟩ := HD.out (by simp)
      have Q1 := Lib.hid q1
      have Q2 := Lib.hid q2
      clear g5 G4 q1 q2
      go_wp2_with fail
      refine (writeLengths_any G5.out (by simp [bl]; omega) (Lib.hid (HR1.out _ _ _ G5.out)) q3 q4 q5 q6 Q1.out Q2.out).mono ?_
      rintro e w6 ⟨rfl, v6, g6⟩
      have G6 := Lib.hid g6
      clear d1 d3 d4 g6
      go_wp2
      go_ret
      refine ⟨rfl, HO.out _ _ _ G6.out ?_ ?_⟩
      all_goals
        rw [HWO2.out]
        unfold outM
        simp [bl, bn]
  · have hne : (er != 0) = true := by simpa using he
    have HNE := Lib.hid he
    clear he
    go_wp2
    go_ret
    refine ⟨rfl, HO.out _ _ _ G3.out ?_ ?_⟩
    all_goals
      rw [HWO.out, wrO, if_neg (by rw [← HER.out]; exact HNE.out)]
      rfl
end
end Go.Proofs.YtnkninjdpgpkmaaDoor.Kl
namespace Go.Proofs.YtnkninjdpgpkmaaDoor.Gw
open Go.RowKit Go.Proofs.YtnkninjdpgpkmaaDoor.Vm Go.Proofs.YtnkninjdpgpkmaaDoor.Vo Go.Proofs.YtnkninjdpgpkmaaDoor.Bm Go.Proofs.YtnkninjdpgpkmaaDoor.Bt Go.Proofs.YtnkninjdpgpkmaaDoor.Bw Go.Proofs.YtnkninjdpgpkmaaDoor.Bp Go.Proofs.YtnkninjdpgpkmaaDoor.Br Go.Proofs.YtnkninjdpgpkmaaDoor.Bs Go.Proofs.YtnkninjdpgpkmaaDoor.Bv Go.Proofs.YtnkninjdpgpkmaaDoor.Bx Go.Proofs.YtnkninjdpgpkmaaDoor.Na Go.Proofs.YtnkninjdpgpkmaaDoor.Nf Go.Proofs.YtnkninjdpgpkmaaDoor.Ni Go.Proofs.YtnkninjdpgpkmaaDoor.Nm Go.Proofs.YtnkninjdpgpkmaaDoor.Ne Go.Proofs.YtnkninjdpgpkmaaDoor.Nh Go.Proofs.YtnkninjdpgpkmaaDoor.Pm Go.Proofs.YtnkninjdpgpkmaaDoor.Pw Go.Proofs.YtnkninjdpgpkmaaDoor.Pi Go.Proofs.YtnkninjdpgpkmaaDoor.Ko Go.Proofs.YtnkninjdpgpkmaaDoor.Km Go.Proofs.YtnkninjdpgpkmaaDoor.Kw Go.Proofs.YtnkninjdpgpkmaaDoor.Ks Go.Proofs.YtnkninjdpgpkmaaDoor.Kc Go.Proofs.YtnkninjdpgpkmaaDoor.Kd Go.Proofs.YtnkninjdpgpkmaaDoor.Ke Go.Proofs.YtnkninjdpgpkmaaDoor.Kh Go.Proofs.YtnkninjdpgpkmaaDoor.Kl Go.Proofs.YtnkninjdpgpkmaaDoor.Ky Go.Proofs.YtnkninjdpgpkmaaDoor.Sm Go.Proofs.YtnkninjdpgpkmaaDoor.Gm Go.Proofs.YtnkninjdpgpkmaaDoor.Ga Go.Proofs.YtnkninjdpgpkmaaDoor.Gp Go.Proofs.YtnkninjdpgpkmaaDoor.Gt

theorem wt_only {S : Nat → Prop} {base : Nat} {w w' : World} {g : Nat} {v : Value} {bs : List UInt8} {z : Nat} (h : wt base w g v bs z) (k : Only S w w') (hg : ¬ S g) (hv : ∀ i, v.ownBlock = some i → ¬ S i) : wt base w' g v bs z :=
  ⟨Blk.only h.b k hg, own_only h.o k hv, h.lt, h.len⟩
/-- The kinds of blocks that the packer writes, from B on. -/
def Kd (B : Nat) (w : World) (i : Nat) : Prop := B ≤ i ∧ ∃ t cs, Blk w i t cs ∧ (t = 72 ∨ t = 5 ∨ t = 105)
/-- Only such blocks have changed. -/
def stay (B : Nat) (w w' : World) : Prop := Only (Kd B w) w w'
section
variable {B : Nat} {a b c : World}
theorem stay.refl (B : Nat) (w : World) : stay B w w := Only.refl _ _
theorem stay.trans (h : stay B a b) (k : stay B b c) : stay B a c :=
  Only.then h k (fun i hi hlt => by
    by_cases hs : Kd B a i
    · exact hs
    · obtain ⟨hb, t, cs, hbl, ht⟩ := hi
      exact ⟨hb, t, cs, by unfold Blk at hbl ⊢; rw [← h.block i hlt hs]; exact hbl, ht⟩)
theorem stay.of_below (h : Below a.heap.size a b) : stay B a b := Only.of_below h
theorem stay.below {W : World} (h : stay B a b) (k : Below B W a) (hB : B ≤ a.heap.size) : Below B W b := Only.below h k hB (fun _ hi => hi.1)
theorem stay.blk (h : stay B a b) {i : Nat} {t : TypeId} {cs : Array Value} (k : Blk a i t cs) (ht : t ≠ 72 ∧ t ≠ 5 ∧ t ≠ 105) : Blk b i t cs :=
  k.only h (fun ⟨_, t', cs', hb, e⟩ => by
    unfold Blk at k hb
    rw [k] at hb
    injection hb with hb
    injection hb with _ hb _
    subst hb
    rcases e with e | e | e
    · exact ht.1 e
    · exact ht.2.1 e
    · exact ht.2.2 e)
/-- Blocks of a writer. -/
theorem stay_own {g z : Nat} {v : Value} {bs : List UInt8} (t : wt B a g v bs z) (hg : B ≤ g) (o : Only (own g v) a b) : stay B a b :=
  o.mono (fun i hi => by
    rcases hi with rfl | hi
    · exact ⟨hg, _, _, t.b, .inl rfl⟩
    · rcases t.o.2 with ⟨e, _⟩ | ⟨g', cap, cur, e, hb, hh, _⟩
      · rw [e] at hi; cases hi
      · rw [e] at hi
        obtain rfl : g' = i := by simpa [Value.ownBlock] using hi
        exact ⟨hb, _, _, hh, .inr (.inl rfl)⟩)
end

/-- A row of lengths that stays. -/
def rowS (B : Nat) (w : World) (A : Option Addr) (n : Nat) (f : Nat → Int) : Prop := row w A n f ∧ (n = 0 ∨ ∃ b off, A = some ⟨b, off, none⟩ ∧ (b < B ∨ ∃ cs, Blk w b 3 cs))
theorem rowS.stay {B : Nat} {w w' : World} {A : Option Addr} {n : Nat} {f : Nat → Int} (h : rowS B w A n f) (k : stay B w w') : rowS B w' A n f := by
  obtain ⟨hr, h0 | ⟨b, off, rfl, hb⟩⟩ := h
  · exact ⟨fun i hi => absurd hi (by omega), .inl h0⟩
  · have hno : ¬ Kd B w b := fun ⟨hB, t, cs, hbl, ht⟩ => by
      rcases hb with hb | ⟨cs', hb⟩
      · omega
      · unfold Blk at hb hbl
        rw [hb] at hbl
        injection hbl with hbl
        injection hbl with _ hbl _
        subst hbl
        rcases ht with e | e | e <;> exact absurd e (by decide)
    refine ⟨fun i hi => ?_, ?_⟩
    · obtain ⟨b', off', e, hl, hc⟩ := hr i hi
      injection e with e
      injection e with e1 e2 _
      subst e1; subst e2
      refine ⟨b, off, rfl, Nat.lt_of_lt_of_le hl k.size, ?_⟩
      rw [← hc]
      simp only [World.cell?, k.block b hl hno]
    · by_cases hn : n = 0
      · exact .inl hn
      · obtain ⟨b', off', e, hl, hc⟩ := hr 0 (by omega)
        injection e with e
        injection e with e1 e2 _
        subst e1; subst e2
        exact .inr ⟨b, off, rfl, hb.imp id (fun ⟨cs, h⟩ => ⟨cs, h.only k hno⟩)⟩

/-- The packer's writer with l behind it. -/
structure wrl (B : Nat) (w : World) (g : Nat) (v : Value) (l : List (Nat × Nat)) : Prop where
  t : ∃ bs, wt B w g v bs (bl l) ∧ num bs = bn l
  g : B ≤ g
section
variable {B : Nat} {w w' : World} {g : Nat} {v : Value} {l : List (Nat × Nat)}
theorem wrl.only {S : Nat → Prop} (h : wrl B w g v l) (k : Only S w w') (hg : ¬ S g) (hv : ∀ i, v.ownBlock = some i → ¬ S i) : wrl B w' g v l := by
  obtain ⟨⟨bs, t, e⟩, h2⟩ := h
  exact ⟨⟨bs, wt_only t k hg hv, e⟩, h2⟩
theorem wrl.below (h : wrl B w g v l) (k : Below w.heap.size w w') : wrl B w' g v l := h.only (S := fun _ => False) (Only.of_below k) (fun e => e) (fun _ _ e => e)
theorem wrl.stay (h : wrl B w g v l) (o : Only (own g v) w w') : stay B w w' := by
  obtain ⟨⟨bs, t, e⟩, h2⟩ := h
  exact stay_own t h2 o
theorem wrl.size (h : wrl B w g v l) : B ≤ w.heap.size := by
  obtain ⟨⟨bs, t, e⟩, h2⟩ := h
  have := t.b.lt
  omega
/-- What a writer's call leaves. -/
theorem wrl.goes {w1 w2 : World} {v2 : Value} {l2 : List (Nat × Nat)} (h : wrl B w1 g v l) {bs : List UInt8} (e : num bs = bn l) (k : gone B w1 g v (num bs) (bl l) w2 v2 l2) : wrl B w2 g v2 (l ++ l2) ∧ Only (own g v) w1 w2 ∧ later w1 v v2 := by
  obtain ⟨bs', t', e'⟩ := k.t
  refine ⟨⟨⟨bs', by rw [bl_append]; exact t', ?_⟩, h.g⟩, k.o, k.a⟩
  rw [e', e, bn_append, Nat.mul_comm]
theorem wrl.put {y m : Nat} {x n : Int} (hx : x = (y : Int)) (hn : n = (m : Int)) (hy : y < 2 ^ m) (hm : m ≤ 32) (h : wrl B w g v l) (hz : bl l ≤ 562949953421312) :
    Calls Tryd.prog 41 #[.pointer (some ⟨g, 0, none⟩), .int .i64 x, .int .i64 n] w fun e w' => e = .returned (.int .i64 0) ∧ ∃ v', wrl B w' g v' (l ++ [(y, m)]) ∧ Only (own g v) w w' ∧ later w v v' := by
  obtain ⟨bs, t, e⟩ := h.t
  refine ((gone.start t h.size).put hx hn hy hm (by simpa [bl] using hz)).mono ?_
  rintro e' w' ⟨rfl, v', k⟩
  exact ⟨rfl, v', h.goes e k⟩
end

theorem sizeWd : (Tryd.prog.info? 105).map (·.size) = some 2 := by kernel_rfl
theorem sizeCs : (Tryd.prog.info? 59).map (·.size) = some 2 := by kernel_rfl
abbrev z2 : Array Value := #[.int .i64 0, .int .i64 0]
theorem one2 (a b : Int) : (#[.int .i64 a, .int .i64 b] : Array Value).all (·.oneCell') = true := by simp [Value.oneCell']
/-- A symbol's word. -/
def wdE (l : List Nat) (y : Nat) : Int := if nth l y = 0 then 1 else 0
def wdA (l : List Nat) (y : Nat) : Nat := if nth l y = 0 then 0 else (sy l y).1
theorem num_nil : num [] = 0 := rfl
set_option maxHeartbeats 1000000 in
set_option maxRecDepth 100000 in
theorem wordOf_any {A : Option Addr} {n cap : Nat} {f : Nat → Int} {w : World} (hr : row w A n f) (he : err n f = 0) {y : Nat} (hy : y < n) :
    Calls Tryd.prog 57 #[.slice A n cap, .int .i64 (y : Int)] w fun e w' => e = .returned (.tuple #[.agg #[.int .i64 (wdA (L n f) y : Int), .int .i64 (nth (L n f) y : Int)], .int .i64 (wdE (L n f) y)]) ∧ Below w.heap.size w w' := by
  obtain ⟨hn, h15, hks⟩ := err_zero he
  have hl15 : nth (L n f) y ≤ 15 := L_le h15 y
  have hcl := code_lt (l := L n f) (i := y) (by rw [L_length]; exact hy) hl15 hks
  obtain ⟨w1, hw1⟩ : ∃ w1, w1 = w.alloc (.cells #[.int .i64 0, .int .i64 0] 105) := ⟨_, rfl⟩
  have B1 : Hid (Below w.heap.size w w1) := Lib.hid (by rw [hw1]; exact below_alloc _ _)
  have K1 : Hid (Blk w1 w.heap.size 105 z2) := Lib.hid (by rw [hw1]; exact Blk.fresh _ _ _)
  have HR := Lib.hid hr
  have HY : Hid (nth (L n f) y = 0 → wrE n f (y : Int) = 1) := Lib.hid (fun h => by unfold wrE; rw [if_neg (by omega), if_pos (.inr (.inr (by rw [Int.toNat_natCast]; exact h)))])
  have HY2 : Hid (nth (L n f) y ≠ 0 → wrE n f (y : Int) = 0) := Lib.hid (fun h => by unfold wrE; rw [if_neg (by omega), if_neg (by rw [Int.toNat_natCast]; omega)])
  have HWR : Hid (∀ u g, wt u.heap.size u g (.slice none 0 0) [] 0 ∨ True) := Lib.hid (fun _ _ => .inr trivial)
  have HLY : Hid (wrZ n f (y : Int) 0 = (if wrE n f (y : Int) = 0 then nth (L n f) y else 0) ∧ wrN n f (y : Int) 0 0 = (if wrE n f (y : Int) = 0 then turnN (code (L n f) y) (nth (L n f) y) else 0)) := Lib.hid (by
    unfold wrZ wrN
    by_cases h : wrE n f (y : Int) = 0
    · rw [if_pos h, if_pos h, if_pos h, if_pos h, Int.toNat_natCast]; simp
    · rw [if_neg h, if_neg h, if_neg h, if_neg h]; exact ⟨rfl, rfl⟩)
  have H15 := Lib.hid hl15
  have HN320 := Lib.hid hn
  obtain ⟨l, hl⟩ : ∃ l, l = L n f := ⟨_, rfl⟩
  rw [← hl] at HY HY2 HLY H15 ⊢
  clear hr he hn h15 hks hcl hl15 hl HWR
  go_enter Tryd.func57, Tryd.ntmps57
  go_wp2_with fail
  rw [← hw1]
  refine (Open_any w1).mono ?_
  rintro e w2 ⟨g, rfl, t2, hg, b2⟩
  have T2 := Lib.hid t2
  have HG := Lib.hid hg
  have B2 := Lib.hid (grows B1.out b2)
  have K2 := Lib.hid (K1.out.below b2)
  have HGW : Hid (w.heap.size < g) := Lib.hid (by rw [hg]; exact K1.out.lt)
  have HC : Hid (∀ u, Only (own g (.slice none 0 0)) w2 u → row u A n f) := Lib.hid (fun u o => HR.out.below (o.below B2.out B2.out.size (fun i hi => by
    rcases hi with hi | hi
    · have := HGW.out; omega
    · cases hi)))
  have HWC := Lib.hid (Write_gen (cap := cap) w1.heap.size (y : Int) (by have := HN320.out; omega) HC b2.size T2 (by omega))
  clear t2 hg b2 hw1
  go_wp2_with fail
  refine HWC.out.mono ?_
  rintro e w3 ⟨rfl, v3, l3, t3, n3, o3, a3⟩
  have T3 := Lib.hid t3
  have N3 := Lib.hid n3
  have B3 : Hid (Below w.heap.size w w3) := Lib.hid (o3.below B2.out B2.out.size (fun i hi => by
    rcases hi with hi | hi
    · have := HGW.out; omega
    · cases hi))
  have K3 : Hid (Blk w3 w.heap.size 105 z2) := Lib.hid (K2.out.only o3 (fun e => by
    rcases e with e | e
    · have := HGW.out; omega
    · cases e))
  clear t3 n3 o3 a3 HWC
  have OS : ∀ (u : World) (cs : Array Value), Below w.heap.size w u → Below w.heap.size w (u.setRow w.heap.size cs) := fun u cs hu => (only_row (S := fun i => i = w.heap.size) (Only.refl _ u) rfl cs).below hu hu.size (fun i hi => by rw [hi]; exact Nat.le_refl _)
  have HOS := Lib.hid OS
  clear OS
  by_cases h0 : nth l y = 0
  · have HW1 := HY.out h0
    have HA : Hid ((wdA l y : Int) = 0 ∧ (nth l y : Int) = 0 ∧ wdE l y = 1) := Lib.hid ⟨by unfold wdA; rw [if_pos h0]; rfl, by rw [h0]; rfl, by unfold wdE; rw [if_pos h0]⟩
    rw [HW1]
    clear h0 HW1
    go_wp2_with (refine wpList_store_row rfl 105 _ _ rfl w.heap.size z2 rfl rfl _ _ K3.out sizeWd rfl (one2 _ _) ?_)
    refine bodyPost_ret (v := .tuple #[.agg z2, .int .i64 1]) (results_cell2 rfl _ _ w.heap.size 105 z2 _ _ rfl rfl (setRow_heap _ _ _ _ _ _ K3.out) Tryd.underlying105 rfl sizeWd) rfl ?_
    exact ⟨by rw [HA.out.1, HA.out.2.1, HA.out.2.2], HOS.out _ _ B3.out⟩
  · have HW1 := HY2.out h0
    obtain ⟨m, hm⟩ : ∃ m, m = nth l y := ⟨_, rfl⟩
    have hz : wrZ n f (y : Int) 0 = m := by rw [HLY.out.1, if_pos HW1, hm]
    have hN : num l3 = (sy l y).1 := by rw [N3.out, num_nil, HLY.out.2, if_pos HW1]; rfl
    have T4 := T3.out
    rw [hz] at T4
    have HT4 := Lib.hid T4
    obtain ⟨S, hS⟩ : ∃ S : ByteArray, S = ⟨l3.toArray⟩ := ⟨_, rfl⟩
    have HSL : Hid (S.data.toList = l3) := Lib.hid (by rw [hS])
    have HSS : Hid (S.size = (m + 7) / 8) := Lib.hid (by rw [hS]; show Array.size _ = _; rw [List.size_toArray]; exact T4.len)
    have HA : Hid ((wdA l y : Int) = ((sy l y).1 : Int) ∧ wdE l y = 0) := Lib.hid ⟨by unfold wdA; rw [if_neg h0], by unfold wdE; rw [if_neg h0]⟩
    have hm15 : m ≤ 15 := by rw [hm]; exact H15.out
    have HTX : Hid (∀ u, Below w3.heap.size w3 u → Calls Tryd.prog 27 #[.pointer (some ⟨g, 0, none⟩)] u fun e w' => e = .returned (.string S) ∧ u = w') := Lib.hid (fun u hu => by rw [hS]; exact Text_any (wt_below T4 hu))
    have HLN : Hid (∀ u, Below w3.heap.size w3 u → Calls Tryd.prog 71 #[.pointer (some ⟨g, 0, none⟩)] u fun e w' => e = .returned (.int .i64 (m : Int)) ∧ u = w') := Lib.hid (fun u hu => Len_any (wt_below T4 hu).b)
    have HPK : Hid (peekN (num S.data.toList) 0 m = (sy l y).1) := Lib.hid (by
      rw [HSL.out, hN]
      unfold peekN
      rw [Nat.pow_zero, Nat.div_one]
      exact Nat.mod_eq_of_lt (by have := sy_fits l y; rw [hm]; exact this))
    rw [HW1]
    have HM := Lib.hid hm
    have HM15 := Lib.hid hm15
    clear h0 HW1 hz hN T4 hS hm hm15
    go_wp2_with fail
    refine (HTX.out w3 (Below.refl _ _)).mono ?_
    rintro e w' ⟨rfl, rfl⟩
    go_wp2_with fail
    refine (New_ok S 0 w3 (by have := HSS.out; have := HM15.out; omega) (Nat.zero_le _)).mono ?_
    rintro e w4 ⟨r, rfl, r4, hr4, b4⟩
    have R4 := Lib.hid r4
    have HR4 := Lib.hid hr4
    have B4 := Lib.hid b4
    have K4 := Lib.hid (K3.out.below b4)
    clear r4 hr4 b4
    go_wp2_with fail
    refine (HLN.out w4 B4.out).mono ?_
    rintro e w' ⟨rfl, rfl⟩
    go_wp2_with fail
    refine (Bits_has (m := m) rfl (by have := HM15.out; omega) R4.out (by have := HSS.out; have := HM15.out; omega) (by have := HSS.out; omega)).mono ?_
    rintro e w5 ⟨rfl, r5, o5⟩
    rw [HPK.out]
    have B5 : Hid (Below w3.heap.size w3 w5) := Lib.hid (o5.below B4.out B4.out.size (fun i hi => by have : i = r := hi; have := HR4.out; omega))
    have K5 : Hid (Blk w5 w.heap.size 105 z2) := Lib.hid (K4.out.only o5 (fun e => by have : w.heap.size = r := e; have := HR4.out; have := K3.out.lt; omega))
    obtain ⟨q, hq⟩ : ∃ q : Int, q = ((sy l y).1 : Int) := ⟨_, rfl⟩
    rw [← hq]
    rw [← hq] at HA
    clear r5 o5 hq
    go_wp2_with fail
    refine (HLN.out w5 B5.out).mono ?_
    rintro e w' ⟨rfl, rfl⟩
    go_wp2_with (refine wpList_store_row rfl 105 _ _ rfl w.heap.size #[.int .i64 q, .int .i64 (m : Int)] rfl rfl _ _ K5.out sizeWd rfl (one2 _ _) ?_)
    refine bodyPost_ret (v := .tuple #[.agg #[.int .i64 q, .int .i64 (m : Int)], .int .i64 0]) (results_cell2 rfl _ _ w.heap.size 105 _ _ _ rfl rfl (setRow_heap _ _ _ _ _ _ K5.out) Tryd.underlying105 rfl sizeWd) rfl ?_
    exact ⟨by rw [HA.out.1, HA.out.2, ← HM.out], HOS.out _ _ (grows B3.out B5.out)⟩

theorem infoW2 : (Tryd.prog.info? 105).map (fun i => (i.zero, i.size, i.bytes)) = some (some (.agg #[.int .i64 0, .int .i64 0]), 2, 16) := by kernel_rfl
theorem made2 (n : Nat) (hn : n ≤ 1000000) (u : World) : (Instr.makeSlice 82 (.int .i64 (n : Int)) (.int .i64 (n : Int))).run Tryd.prog u = .ok (.slice (some ⟨u.heap.size, 0, none⟩) n n) (u.alloc (.cells (arr (n * 2) (fun _ => 0)) 105)) := by
  obtain ⟨i0, hi, hz0, hz1, hz2⟩ := info_parts infoW2
  have h := run_make (P := Tryd.prog) u 82 105 i0 (.agg #[.int .i64 0, .int .i64 0]) Tryd.underlying82 hi hz0 .i64 .i64 (n : Int) (n : Int) (by omega) (by omega) (by rw [hz2]; omega) (by omega)
  have e : madeCells (Value.agg #[.int .i64 0, .int .i64 0]).cells (n * i0.size) = arr (n * 2) (fun _ => 0) := by
    rw [hz1]
    apply Array.ext
    · simp [madeCells, arr]
    · intro j h1 h2
      simp [madeCells, arr, Value.cells]
      rcases Nat.mod_two_eq_zero_or_one j with e | e <;> simp [e]
  simp only [Int.toNat_natCast, e] at h
  exact h

/-- Codes in memory: the symbols' words so far. -/
structure cod (B : Nat) (w : World) (c ws : Nat) (l : List Nat) : Prop where
  b : ∃ A cap f, Blk w c 84 #[.slice A l.length cap, .slice (some ⟨ws, 0, none⟩) l.length l.length] ∧ rowS B w A l.length f ∧ L l.length f = l ∧ err l.length f = 0
  k : ∃ F, Blk w ws 105 (arr (l.length * 2) F) ∧ ∀ y, y < l.length → (F (y * 2) = 0 ∧ F (y * 2 + 1) = 0) ∨ (0 < nth l y ∧ F (y * 2) = ((sy l y).1 : Int) ∧ F (y * 2 + 1) = ((sy l y).2 : Int))
  lo : B ≤ ws
theorem cod.only {B : Nat} {w w' : World} {c ws : Nat} {l : List Nat} (h : cod B w c ws l) (s : stay B w w') {S : Nat → Prop} (o : Only S w w') (hs : ¬ S ws) : cod B w' c ws l := by
  obtain ⟨⟨A, cap, f, hb, hr, hL, he⟩, ⟨F, hk, hF⟩, lo⟩ := h
  exact ⟨⟨A, cap, f, s.blk hb ⟨by decide, by decide, by decide⟩, hr.stay s, hL, he⟩, ⟨F, hk.only o hs, hF⟩, lo⟩
theorem cod.below {B : Nat} {w w' : World} {c ws : Nat} {l : List Nat} (h : cod B w c ws l) (k : Below w.heap.size w w') : cod B w' c ws l := h.only (stay.of_below k) (S := fun _ => False) (Only.of_below k) (fun e => e)

set_option maxRecDepth 100000 in
theorem newCode_any {B : Nat} {A : Option Addr} {n cap : Nat} {f : Nat → Int} {w : World} (hr : rowS B w A n f) (he : err n f = 0) (hB : B ≤ w.heap.size) :
    Calls Tryd.prog 31 #[.slice A n cap] w fun e w' => ∃ c ws, e = .returned (.pointer (some ⟨c, 0, none⟩)) ∧ cod B w' c ws (L n f) ∧ w.heap.size ≤ c ∧ w.heap.size ≤ ws ∧ ws < w'.heap.size ∧ Below w.heap.size w w' := by
  have hn := (err_zero he).1
  have hmk := made2 n (by omega)
  have HR := Lib.hid hr
  have HE := Lib.hid he
  have HB := Lib.hid hB
  obtain ⟨w1, hw1⟩ : ∃ w1, w1 = w.alloc (.cells (arr (n * 2) (fun _ => 0)) 105) := ⟨_, rfl⟩
  have B1 : Hid (Below w.heap.size w w1) := Lib.hid (by rw [hw1]; exact below_alloc _ _)
  have K1 : Hid (Blk w1 w.heap.size 105 (arr (n * 2) (fun _ => 0))) := Lib.hid (by rw [hw1]; exact Blk.fresh _ _ _)
  have hmk' := hmk w
  rw [← hw1] at hmk'
  obtain ⟨ws, hws⟩ : ∃ ws, ws = w.heap.size := ⟨_, rfl⟩
  rw [← hws] at hmk' K1
  have HWS := Lib.hid hws
  clear hr he hB hn hmk hw1 hws
  go_enter Tryd.func31, Tryd.ntmps31
  go_wp2
  go_ret
  have B2 : Below w1.heap.size w1 (w1.alloc (.cells #[.slice A n cap, .slice (some ⟨ws, 0, none⟩) n n] 84)) := below_alloc _ _
  have hL : (L n f).length = n := L_length n f
  refine ⟨_, ws, rfl, ⟨⟨A, cap, f, ?_, ?_, by rw [hL], by rw [hL]; exact HE.out⟩, ⟨fun _ => 0, ?_, fun y _ => .inl ⟨rfl, rfl⟩⟩, by rw [HWS.out]; exact HB.out⟩, ?_, by rw [HWS.out]; exact Nat.le_refl _, ?_, grows B1.out B2⟩
  · rw [hL]; exact Blk.fresh _ _ _
  · rw [hL]; exact (HR.out.stay (stay.of_below B1.out)).stay (stay.of_below B2)
  · rw [hL]; exact K1.out.below B2
  · exact B1.out.size
  · exact (K1.out.below B2).lt
end Go.Proofs.YtnkninjdpgpkmaaDoor.Gw
namespace Go.Proofs.YtnkninjdpgpkmaaDoor.Gx
open Go.RowKit Go.Proofs.YtnkninjdpgpkmaaDoor.Vm Go.Proofs.YtnkninjdpgpkmaaDoor.Vo Go.Proofs.YtnkninjdpgpkmaaDoor.Bm Go.Proofs.YtnkninjdpgpkmaaDoor.Bw Go.Proofs.YtnkninjdpgpkmaaDoor.Bv Go.Proofs.YtnkninjdpgpkmaaDoor.Na Go.Proofs.YtnkninjdpgpkmaaDoor.Ni Go.Proofs.YtnkninjdpgpkmaaDoor.Nm Go.Proofs.YtnkninjdpgpkmaaDoor.Ne Go.Proofs.YtnkninjdpgpkmaaDoor.Pm Go.Proofs.YtnkninjdpgpkmaaDoor.Ko Go.Proofs.YtnkninjdpgpkmaaDoor.Km Go.Proofs.YtnkninjdpgpkmaaDoor.Kw Go.Proofs.YtnkninjdpgpkmaaDoor.Ks Go.Proofs.YtnkninjdpgpkmaaDoor.Ke Go.Proofs.YtnkninjdpgpkmaaDoor.Kh Go.Proofs.YtnkninjdpgpkmaaDoor.Sm Go.Proofs.YtnkninjdpgpkmaaDoor.Gm Go.Proofs.YtnkninjdpgpkmaaDoor.Ga Go.Proofs.YtnkninjdpgpkmaaDoor.Gp Go.Proofs.YtnkninjdpgpkmaaDoor.Gt Go.Proofs.YtnkninjdpgpkmaaDoor.Gw

theorem onep (a b : Option Addr) : (#[.pointer a, .pointer b] : Array Value).all (·.oneCell') = true := by simp [Value.oneCell']
set_option maxRecDepth 100000 in
theorem newCodes_any {B : Nat} {A1 A2 : Option Addr} {n1 c1 n2 c2 : Nat} {f1 f2 : Nat → Int} {w : World} (r1 : rowS B w A1 n1 f1) (h1 : err n1 f1 = 0) (r2 : rowS B w A2 n2 f2) (h2 : err n2 f2 = 0) (hB : B ≤ w.heap.size) :
    Calls Tryd.prog 23 #[.slice A1 n1 c1, .slice A2 n2 c2] w fun e w' => ∃ cl wl cd wd, e = .returned (.agg #[.pointer (some ⟨cl, 0, none⟩), .pointer (some ⟨cd, 0, none⟩)]) ∧ cod B w' cl wl (L n1 f1) ∧ cod B w' cd wd (L n2 f2) ∧ wl ≠ wd ∧ w.heap.size ≤ wl ∧ w.heap.size ≤ wd ∧ Below w.heap.size w w' := by
  obtain ⟨w1, hw1⟩ : ∃ w1, w1 = w.alloc (.cells #[.pointer none, .pointer none] 59) := ⟨_, rfl⟩
  have B1 : Hid (Below w.heap.size w w1) := Lib.hid (by rw [hw1]; exact below_alloc _ _)
  have K1 : Hid (Blk w1 w.heap.size 59 #[.pointer none, .pointer none]) := Lib.hid (by rw [hw1]; exact Blk.fresh _ _ _)
  have R1 := Lib.hid (r1.stay (stay.of_below B1.out))
  have R2 := Lib.hid (r2.stay (stay.of_below B1.out))
  have H1 := Lib.hid h1
  have H2 := Lib.hid h2
  have HB := Lib.hid hB
  clear r1 r2 h1 h2 hB
  go_enter Tryd.func23, Tryd.ntmps23
  go_wp2_with fail
  rw [← hw1]
  refine (newCode_any R1.out H1.out (Nat.le_trans HB.out B1.out.size)).mono ?_
  rintro e w2 ⟨cl, wl, rfl, g1, l1, l2, l3, b2⟩
  have G1 := Lib.hid g1
  have L1 : Hid (w.heap.size ≤ wl ∧ wl < w2.heap.size) := Lib.hid ⟨Nat.le_trans B1.out.size l2, l3⟩
  have B2 := Lib.hid (grows B1.out b2)
  have R22 := Lib.hid (R2.out.stay (stay.of_below b2))
  have K2 := Lib.hid (K1.out.below b2)
  clear g1 l1 l2 l3 b2 hw1
  go_wp2_with fail
  refine (newCode_any R22.out H2.out (Nat.le_trans HB.out B2.out.size)).mono ?_
  rintro e w3 ⟨cd, wd, rfl, g2, l1, l2, l3, b3⟩
  have G2 := Lib.hid g2
  have G13 := Lib.hid (G1.out.below b3)
  have L2 : Hid (w2.heap.size ≤ wd) := Lib.hid l2
  have B3 := Lib.hid (grows B2.out b3)
  have K3 := Lib.hid (K2.out.below b3)
  have HZ : Hid (w.heap.size < w2.heap.size) := Lib.hid K2.out.lt
  clear g2 l1 l2 l3 b3
  go_wp2_with (refine wpList_store_row rfl 59 _ _ rfl w.heap.size #[.pointer (some ⟨cl, 0, none⟩), .pointer (some ⟨cd, 0, none⟩)] rfl rfl _ _ K3.out sizeCs rfl (onep _ _) ?_)
  refine bodyPost_ret (v := .agg #[.pointer (some ⟨cl, 0, none⟩), .pointer (some ⟨cd, 0, none⟩)]) (results_cell_row rfl _ _ w.heap.size 59 _ _ _ rfl (setRow_heap _ _ _ _ _ _ K3.out) Tryd.underlying59 rfl sizeCs) rfl ?_
  obtain ⟨w4, hw4⟩ : ∃ w4, w4 = w3.setRow w.heap.size #[.pointer (some ⟨cl, 0, none⟩), .pointer (some ⟨cd, 0, none⟩)] := ⟨_, rfl⟩
  have o4 : Only (fun i => i = w.heap.size) w3 w4 := by rw [hw4]; exact only_row (S := fun i => i = w.heap.size) (Only.refl _ _) rfl _
  rw [← hw4]
  -- of the kinds that count nothing has changed
  have keep : ∀ {c ws : Nat} {l : List Nat}, cod B w3 c ws l → cod B w4 c ws l := by
    rintro c ws l ⟨⟨A, cap, f, hb, hr, hL, he⟩, ⟨F, hk, hF⟩, lo⟩
    have ne : ∀ {i : Nat} {t : TypeId} {cs : Array Value}, Blk w3 i t cs → t ≠ 59 → i ≠ w.heap.size := fun h ht => Blk.apart h K3.out ht
    refine ⟨⟨A, cap, f, hb.only o4 (ne hb (by decide)), ?_, hL, he⟩, ⟨F, hk.only o4 (ne hk (by decide)), hF⟩, lo⟩
    obtain ⟨hrr, h0 | ⟨b, off, rfl, hbb⟩⟩ := hr
    · exact ⟨fun i hi => absurd hi (by omega), .inl h0⟩
    · have hbne : b ≠ w.heap.size := by
        rcases hbb with hbb | ⟨cs, hbb⟩
        · have := HB.out; omega
        · exact ne hbb (by decide)
      refine ⟨fun i hi => ?_, .inr ⟨b, off, rfl, hbb.imp id (fun ⟨cs, h⟩ => ⟨cs, h.only o4 hbne⟩)⟩⟩
      obtain ⟨b', off', e, hl, hc⟩ := hrr i hi
      injection e with e
      injection e with e1 e2 _
      subst e1; subst e2
      refine ⟨b, off, rfl, Nat.lt_of_lt_of_le hl o4.size, ?_⟩
      rw [← hc]
      simp only [World.cell?, o4.block b hl hbne]
  exact ⟨cl, wl, cd, wd, rfl, keep G13.out, keep G2.out, by have := L1.out.2; have := L2.out; omega, L1.out.1, by have := L2.out; have := HZ.out; omega, o4.below B3.out B3.out.size (fun i hi => by rw [hi]; exact Nat.le_refl _)⟩

theorem later_le {a b : World} {v v' : Value} (h : later b v v') (k : a.heap.size ≤ b.heap.size) : later a v v' := by
  rcases h with h | ⟨i, hi, h⟩
  · exact .inl h
  · exact .inr ⟨i, Nat.le_trans k hi, h⟩
theorem own_not {B : Nat} {w : World} {g i : Nat} {v : Value} {l : List (Nat × Nat)} {t : TypeId} {cs : Array Value} (h : wrl B w g v l) (k : Blk w i t cs) (ht : 72 ≠ t ∧ 5 ≠ t) : ¬ own g v i := fun e => by
  obtain ⟨bs, tt, _⟩ := h.t
  rcases e with e | e
  · exact Blk.apart tt.b k ht.1 e.symm
  · exact own_apart tt.o k ht.2 i e rfl
theorem undr {S : Nat → Prop} {a b : World} (h : Only S a.drew b) : Only S a b := ⟨h.os, h.tape, h.output, h.size, h.block⟩
/-- What write leaves. -/
def wrote (B : Nat) (w : World) (c ws : Nat) (li : List Nat) (y : Nat) (g : Nat) (v : Value) (l : List (Nat × Nat)) (e : Ending) (w' : World) : Prop :=
  (¬ has li y ∧ e = .returned (.int .i64 1) ∧ stay B w w') ∨ (has li y ∧ e = .returned (.int .i64 0) ∧ ∃ v', wrl B w' g v' (l ++ [sy li y]) ∧ cod B w' c ws li ∧ Only (fun i => own g v i ∨ i = ws) w w' ∧ stay B w w' ∧ later w v v')
set_option maxHeartbeats 2000000 in
set_option maxRecDepth 100000 in
theorem write_any {B : Nat} {w : World} {c ws g : Nat} {v : Value} {l : List (Nat × Nat)} {li : List Nat} (hc : cod B w c ws li) (hw : wrl B w g v l) (hz : bl l ≤ 281474976710656) {y : Nat} (hy : y ≤ 1000000) :
    Calls Tryd.prog 47 #[.pointer (some ⟨c, 0, none⟩), .pointer (some ⟨g, 0, none⟩), .int .i64 (y : Int)] w (wrote B w c ws li y g v l) := by
  obtain ⟨⟨A, cap, f, hb, hr, hL, he⟩, ⟨F, hk, hF⟩, lo⟩ := hc
  obtain ⟨n, hn⟩ : ∃ n, n = li.length := ⟨_, rfl⟩
  rw [← hn] at hb hr hL he hk hF
  have c0 : w.cell? ⟨c, 0, none⟩ = some (.slice A n cap) := hb.cell 0
  have c1 : w.cell? ⟨c, 1, none⟩ = some (.slice (some ⟨ws, 0, none⟩) n n) := hb.cell 1
  have HBk := Lib.hid hb
  have HR := Lib.hid hr
  have HL := Lib.hid hL
  have HE := Lib.hid he
  have HK := Lib.hid hk
  have HF := Lib.hid hF
  have HLO := Lib.hid lo
  have HW := Lib.hid hw
  have HN := Lib.hid hn
  have hy0 : (0 : Int) ≤ (y : Int) := by omega
  have hn320 := (err_zero he).1
  have HZ := Lib.hid hz
  clear hb hr hL he hk hF lo hw hz
  by_cases hyn : y < n
  · have hyn' : ¬ (n : Int) ≤ (y : Int) := by omega
    have hyn2 : (y : Int) < (n : Int) := by omega
    have x0 : w.cell? ⟨ws, y * 2, none⟩ = some (.int .i64 (F (y * 2))) := (HK.out.cell _).trans (arr_get F (by omega))
    have x1 : w.cell? ⟨ws, y * 2 + 1, none⟩ = some (.int .i64 (F (y * 2 + 1))) := (HK.out.cell _).trans (arr_get F (by omega))
    have HYN := Lib.hid hyn
    by_cases h1 : F (y * 2 + 1) = 0
    · -- the word is not known yet
      rw [h1] at x1
      have HWD := Lib.hid (wordOf_any (cap := cap) HR.out.1 HE.out hyn)
      rw [HL.out] at HWD
      clear hn hyn h1 x0
      by_cases h0 : nth li y = 0
      · have hA : wdA li y = 0 := by unfold wdA; rw [if_pos h0]
        have hEE : wdE li y = 1 := by unfold wdE; rw [if_pos h0]
        rw [hA, hEE, h0] at HWD
        have H0 := Lib.hid h0
        clear hA hEE h0
        go_enter Tryd.func47, Tryd.ntmps47
        go_wp2_with fail
        refine HWD.out.mono ?_
        rintro e w2 ⟨rfl, b2⟩
        have B2 := Lib.hid b2
        clear b2
        go_wp2
        go_ret
        exact .inl ⟨fun h => by have := h.2; have := H0.out; omega, rfl, (stay.of_below B2.out).trans (stay.of_below (below_alloc _ _))⟩
      · have hEE : wdE li y = 0 := by unfold wdE; rw [if_neg h0]
        have hA : wdA li y = (sy li y).1 := by unfold wdA; rw [if_neg h0]
        rw [hEE, hA] at HWD
        obtain ⟨m, hm⟩ : ∃ m, m = nth li y := ⟨_, rfl⟩
        rw [← hm] at HWD
        obtain ⟨q, hq⟩ : ∃ q, q = (sy li y).1 := ⟨_, rfl⟩
        rw [← hq] at HWD
        have HM := Lib.hid hm
        have HQ := Lib.hid hq
        have H0 := Lib.hid h0
        clear hEE hA h0 hm hq
        go_enter Tryd.func47, Tryd.ntmps47
        go_wp2_with fail
        refine HWD.out.mono ?_
        rintro e w2 ⟨rfl, b2⟩
        have B2 := Lib.hid b2
        obtain ⟨w3, hw3⟩ : ∃ w3, w3 = w2.alloc (.cells #[.int .i64 (q : Int), .int .i64 (m : Int)] 105) := ⟨_, rfl⟩
        obtain ⟨Z, hZ⟩ : ∃ Z, Z = w2.heap.size := ⟨_, rfl⟩
        have B3 : Hid (Below w.heap.size w w3) := Lib.hid (grows b2 (by rw [hw3]; exact below_alloc _ _))
        have K3 : Hid (Blk w3 Z 105 #[.int .i64 (q : Int), .int .i64 (m : Int)]) := Lib.hid (by rw [hw3, hZ]; exact Blk.fresh _ _ _)
        have HZ3 : Hid (w.heap.size ≤ Z) := Lib.hid (by rw [hZ]; exact b2.size)
        have k0 : w3.cell? ⟨Z, 0, none⟩ = some (.int .i64 (q : Int)) := K3.out.cell 0
        have k1 : w3.cell? ⟨Z, 1, none⟩ = some (.int .i64 (m : Int)) := K3.out.cell 1
        have C3 : w3.cell? ⟨c, 1, none⟩ = some (.slice (some ⟨ws, 0, none⟩) n n) := (HBk.out.below B3.out).cell 1
        have W3 := Lib.hid (HK.out.below B3.out)
        have f0 : w3.frozen? ⟨ws, y * 2, none⟩ = false := W3.out.frozen _
        have f1 : w3.frozen? ⟨ws, y * 2 + 1, none⟩ = false := W3.out.frozen _
        have s0 : w3.cell? ⟨ws, y * 2, none⟩ = some (.int .i64 (F (y * 2))) := (W3.out.cell _).trans (arr_get F (by have := HYN.out; omega))
        have s1 : w3.cell? ⟨ws, y * 2 + 1, none⟩ = some (.int .i64 (F (y * 2 + 1))) := (W3.out.cell _).trans (arr_get F (by have := HYN.out; omega))
        clear b2
        go_wp2_with fail
        rw [← hw3, ← hZ]
        clear hw3 hZ x1 c0 c1
        obtain ⟨w4, hw4⟩ : ∃ w4, w4 = ((w3.setCell ⟨ws, y * 2, none⟩ (.int .i64 (q : Int))).setCell ⟨ws, y * 2 + 1, none⟩ (.int .i64 (m : Int))).drew := ⟨_, rfl⟩
        obtain ⟨F4, hF4⟩ : ∃ F4 : Nat → Int, F4 = fun i => if i = y * 2 + 1 then (m : Int) else if i = y * 2 then (q : Int) else F i := ⟨_, rfl⟩
        have O34 : Hid (Only (fun i => i = ws) w3 w4) := Lib.hid (by rw [hw4]; exact (((Only.refl (fun i => i = ws) w3).store (p := ⟨ws, y * 2, none⟩) (.inl rfl) _).store (p := ⟨ws, y * 2 + 1, none⟩) (.inl rfl) _).drew)
        have K4 : Hid (Blk w4 ws 105 (arr (n * 2) F4)) := Lib.hid (by
          rw [hw4, hF4]
          have h := ((W3.out.store (y * 2) (.int .i64 (q : Int))).store (y * 2 + 1) (.int .i64 (m : Int)))
          rw [arr_set, arr_set] at h
          exact h)
        have E0 : Hid (F4 (y * 2) = (q : Int)) := Lib.hid (by rw [hF4]; simp)
        have E1 : Hid (F4 (y * 2 + 1) = (m : Int)) := Lib.hid (by rw [hF4]; simp)
        have HM15 : Hid (m ≤ 15) := Lib.hid (by rw [HM.out, ← HL.out]; exact L_le (err_zero HE.out).2.1 y)
        have S34 : stay B w3 w4 := O34.out.mono (fun i hi => by rw [hi]; exact ⟨HLO.out, _, _, W3.out, .inr (.inr rfl)⟩)
        have CB4 : Hid (Blk w4 c 84 #[.slice A n cap, .slice (some ⟨ws, 0, none⟩) n n]) := Lib.hid (S34.blk (HBk.out.below B3.out) ⟨by decide, by decide, by decide⟩)
        have S4 : Hid (stay B w w4) := Lib.hid ((stay.of_below B3.out).trans S34)
        have W4 : Hid (wrl B w4 g v l) := Lib.hid ((HW.out.below B3.out).only O34.out (fun e => own_not (HW.out.below B3.out) W3.out ⟨by decide, by decide⟩ (.inl e.symm)) (fun i hi e => own_not (HW.out.below B3.out) W3.out ⟨by decide, by decide⟩ (by rw [← e]; exact .inr hi)))
        have O4 : Hid (Only (fun i => own g v i ∨ i = ws) w w4) := Lib.hid ((Only.of_below B3.out).trans (O34.out.mono (fun i hi => .inr hi)))
        have C4 : Hid (cod B w4 c ws li) := Lib.hid (by
          refine ⟨⟨A, cap, f, ?_, ?_, ?_, ?_⟩, ⟨F4, ?_, fun z hz => ?_⟩, HLO.out⟩
          · rw [← HN.out]; exact CB4.out
          · rw [← HN.out]; exact HR.out.stay S4.out
          · rw [← HN.out]; exact HL.out
          · rw [← HN.out]; exact HE.out
          · rw [← HN.out]; exact K4.out
          · by_cases hzy : z = y
            · subst hzy
              exact .inr ⟨by have := H0.out; omega, E0.out.trans (by rw [HQ.out]), E1.out.trans (by rw [HM.out]; rfl)⟩
            · have hh := HF.out z (by rw [HN.out]; exact hz)
              have e1 : F4 (z * 2) = F (z * 2) := by rw [hF4]; show (if _ then _ else if _ then _ else _) = _; rw [if_neg (by omega), if_neg (by omega)]
              have e2 : F4 (z * 2 + 1) = F (z * 2 + 1) := by rw [hF4]; show (if _ then _ else if _ then _ else _) = _; rw [if_neg (by omega), if_neg (by omega)]
              rw [e1, e2]; exact hh)
        go_region
        rw [← hw4]
        clear hw4 hF4 S34 k0 k1 C3 f0 f1 s0 s1
        go_wp2_with fail
        have hq32 : q < 2 ^ m := by rw [HQ.out, HM.out]; exact sy_fits li y
        have HPUT := Lib.hid ((wrl.below W4.out (Below.refl _ w4).drew).put (y := q) (m := m) rfl rfl hq32 (by have := HM15.out; omega) (by have := HZ.out; omega))
        have d0 : w4.cell? ⟨c, 1, none⟩ = some (.slice (some ⟨ws, 0, none⟩) n n) := CB4.out.cell 1
        have d1 : w4.cell? ⟨ws, y * 2, none⟩ = some (.int .i64 (q : Int)) := (K4.out.cell _).trans ((arr_get F4 (by have := HYN.out; omega)).trans (by rw [E0.out]))
        have d2 : w4.cell? ⟨ws, y * 2 + 1, none⟩ = some (.int .i64 (m : Int)) := (K4.out.cell _).trans ((arr_get F4 (by have := HYN.out; omega)).trans (by rw [E1.out]))
        have HNW : Hid (¬ own g v ws ∧ ¬ own g v c) := Lib.hid ⟨own_not W4.out K4.out ⟨by decide, by decide⟩, own_not W4.out CB4.out ⟨by decide, by decide⟩⟩
        clear hq32
        go_region_held3 (fun u => u.cell? ⟨c, 1, none⟩ = some (.slice (some ⟨ws, 0, none⟩) n n) ∧ u.cell? ⟨ws, y * 2, none⟩ = some (.int .i64 (q : Int)) ∧ u.cell? ⟨ws, y * 2 + 1, none⟩ = some (.int .i64 (m : Int)))
          (first | exact ⟨d0, d1, d2⟩ | assumption)
          (first | (go_at_call 41; refine HPUT.out.mono ?_; rintro e w5 ⟨rfl, v5, h5, o5, a5⟩; have H5 := Lib.hid h5; have O5 := Lib.hid o5; have A5 := Lib.hid a5; have kw5 := (Blk.draws K4.out 1).only o5 HNW.out.1; have kc5 := (Blk.draws CB4.out 1).only o5 HNW.out.2; have p5 : w5.cell? ⟨c, 1, none⟩ = some (.slice (some ⟨ws, 0, none⟩) n n) ∧ w5.cell? ⟨ws, y * 2, none⟩ = some (.int .i64 (q : Int)) ∧ w5.cell? ⟨ws, y * 2 + 1, none⟩ = some (.int .i64 (m : Int)) := ⟨kc5.cell 1, (kw5.cell _).trans ((K4.out.cell _).symm.trans d1), (kw5.cell _).trans ((K4.out.cell _).symm.trans d2)⟩; clear h5 o5 a5 kw5 kc5))
        go_wp2
        go_ret
        have s5 : stay B w4 w5 := (stay.of_below (Below.refl _ w4).drew).trans ((wrl.below W4.out (Below.refl _ w4).drew).stay O5.out)
        refine .inr ⟨⟨by rw [← HN.out]; exact HYN.out, by have := H0.out; omega⟩, rfl, v5, ?_, ?_, ?_, S4.out.trans s5, later_le A5.out (by have := O4.out.size; exact this)⟩
        · have e : sy li y = (q, m) := Prod.ext HQ.out.symm HM.out.symm
          rw [e]; exact H5.out
        · exact (cod.below C4.out (Below.refl _ w4).drew).only ((wrl.below W4.out (Below.refl _ w4).drew).stay O5.out) O5.out HNW.out.1
        · exact O4.out.then (undr O5.out) (fun i hi _ => .inl hi)
    · -- the word is known
      obtain ⟨h0, hq, hm⟩ := (HF.out y hyn).resolve_left (fun e => h1 e.2)
      obtain ⟨m, hm'⟩ : ∃ m, m = nth li y := ⟨_, rfl⟩
      obtain ⟨q, hq'⟩ : ∃ q, q = (sy li y).1 := ⟨_, rfl⟩
      have hm2 : F (y * 2 + 1) = (m : Int) := by rw [hm, hm']; rfl
      have hq2 : F (y * 2) = (q : Int) := by rw [hq, hq']
      have hmb : ((m : Int) == 0) = false := by simp; omega
      rw [hm2] at x1
      rw [hq2] at x0
      have HM := Lib.hid hm'
      have HQ := Lib.hid hq'
      have H0 : Hid (nth li y ≠ 0) := Lib.hid (by omega)
      obtain ⟨F4, hF4⟩ : ∃ F4, F4 = F := ⟨_, rfl⟩
      have K4 : Hid (Blk w ws 105 (arr (n * 2) F4)) := Lib.hid (by rw [hF4]; exact HK.out)
      have E0 : Hid (F4 (y * 2) = (q : Int)) := Lib.hid (by rw [hF4]; exact hq2)
      have E1 : Hid (F4 (y * 2 + 1) = (m : Int)) := Lib.hid (by rw [hF4]; exact hm2)
      have HM15 : Hid (m ≤ 15) := Lib.hid (by rw [HM.out, ← HL.out]; exact L_le (err_zero HE.out).2.1 y)
      have CB4 := HBk
      have S4 : Hid (stay B w w) := Lib.hid (stay.refl _ _)
      have W4 := HW
      have O4 : Hid (Only (fun i => own g v i ∨ i = ws) w w) := Lib.hid (Only.refl _ _)
      have C4 : Hid (cod B w c ws li) := Lib.hid (by
        refine ⟨⟨A, cap, f, ?_, ?_, ?_, ?_⟩, ⟨F, ?_, fun z hz => ?_⟩, HLO.out⟩
        · rw [← HN.out]; exact HBk.out
        · rw [← HN.out]; exact HR.out
        · rw [← HN.out]; exact HL.out
        · rw [← HN.out]; exact HE.out
        · rw [← HN.out]; exact HK.out
        · exact HF.out z (by rw [HN.out]; exact hz))
      clear hn hyn h1 h0 hq hm hm' hq' hm2 hq2 hF4
      go_enter Tryd.func47, Tryd.ntmps47
      go_wp2_with fail
      have hq32 : q < 2 ^ m := by rw [HQ.out, HM.out]; exact sy_fits li y
      have HPUT := Lib.hid ((wrl.below W4.out (Below.refl _ w).drew).put (y := q) (m := m) rfl rfl hq32 (by have := HM15.out; omega) (by have := HZ.out; omega))
      have d0 : w.cell? ⟨c, 1, none⟩ = some (.slice (some ⟨ws, 0, none⟩) n n) := CB4.out.cell 1
      have d1 : w.cell? ⟨ws, y * 2, none⟩ = some (.int .i64 (q : Int)) := (K4.out.cell _).trans ((arr_get F4 (by have := HYN.out; omega)).trans (by rw [E0.out]))
      have d2 : w.cell? ⟨ws, y * 2 + 1, none⟩ = some (.int .i64 (m : Int)) := (K4.out.cell _).trans ((arr_get F4 (by have := HYN.out; omega)).trans (by rw [E1.out]))
      have HNW : Hid (¬ own g v ws ∧ ¬ own g v c) := Lib.hid ⟨own_not W4.out K4.out ⟨by decide, by decide⟩, own_not W4.out CB4.out ⟨by decide, by decide⟩⟩
      clear hq32
      go_region_held3 (fun u => u.cell? ⟨c, 1, none⟩ = some (.slice (some ⟨ws, 0, none⟩) n n) ∧ u.cell? ⟨ws, y * 2, none⟩ = some (.int .i64 (q : Int)) ∧ u.cell? ⟨ws, y * 2 + 1, none⟩ = some (.int .i64 (m : Int)))
        (first | exact ⟨d0, d1, d2⟩ | assumption)
        (first | (go_at_call 41; refine HPUT.out.mono ?_; rintro e w5 ⟨rfl, v5, h5, o5, a5⟩; have H5 := Lib.hid h5; have O5 := Lib.hid o5; have A5 := Lib.hid a5; have kw5 := (Blk.draws K4.out 1).only o5 HNW.out.1; have kc5 := (Blk.draws CB4.out 1).only o5 HNW.out.2; have p5 : w5.cell? ⟨c, 1, none⟩ = some (.slice (some ⟨ws, 0, none⟩) n n) ∧ w5.cell? ⟨ws, y * 2, none⟩ = some (.int .i64 (q : Int)) ∧ w5.cell? ⟨ws, y * 2 + 1, none⟩ = some (.int .i64 (m : Int)) := ⟨kc5.cell 1, (kw5.cell _).trans ((K4.out.cell _).symm.trans d1), (kw5.cell _).trans ((K4.out.cell _).symm.trans d2)⟩; clear h5 o5 a5 kw5 kc5))
      go_wp2
      go_ret
      have s5 : stay B w w5 := (stay.of_below (Below.refl _ w).drew).trans ((wrl.below W4.out (Below.refl _ w).drew).stay O5.out)
      refine .inr ⟨⟨by rw [← HN.out]; exact HYN.out, by have := H0.out; omega⟩, rfl, v5, ?_, ?_, ?_, S4.out.trans s5, later_le A5.out (by have := O4.out.size; exact this)⟩
      · have e : sy li y = (q, m) := Prod.ext HQ.out.symm HM.out.symm
        rw [e]; exact H5.out
      · exact (cod.below C4.out (Below.refl _ w).drew).only ((wrl.below W4.out (Below.refl _ w).drew).stay O5.out) O5.out HNW.out.1
      · exact O4.out.then (undr O5.out) (fun i hi _ => .inl hi)
  · have hyn' : (n : Int) ≤ (y : Int) := by omega
    have HH : Hid (¬ has li y) := Lib.hid (fun h => by have := h.1; omega)
    clear hn hyn
    go_enter Tryd.func47, Tryd.ntmps47
    go_wp2
    go_ret
    exact .inl ⟨HH.out, rfl, stay.refl _ _⟩
end Go.Proofs.YtnkninjdpgpkmaaDoor.Gx
