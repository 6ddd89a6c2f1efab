/-
  block.unwritable: what is wrong of a head that is to be written; block.writeLengths: a dynamic head's lengths written.
  block.writeLengths: a dynamic head's lengths written.
  block.Write: what it answers, and what is written.
  Conditions: as each theorem says.
-/
import Derived.Test.YtnkninjdpgpkmaaGreatDoorBbe
import Derived.Test.YtnkninjdpgpkmaaGreatDoorBaz
import Derived.Test.YtnkninjdpgpkmaaGreatDoorBbi
namespace Go.Proofs.YtnkninjdpgpkmaaGreatDoor.Ki
open Go.RowKit Go.Proofs.YtnkninjdpgpkmaaGreatDoor.Vm Go.Proofs.YtnkninjdpgpkmaaGreatDoor.Vo Go.Proofs.YtnkninjdpgpkmaaGreatDoor.Bm Go.Proofs.YtnkninjdpgpkmaaGreatDoor.Bt Go.Proofs.YtnkninjdpgpkmaaGreatDoor.Bw Go.Proofs.YtnkninjdpgpkmaaGreatDoor.Bp Go.Proofs.YtnkninjdpgpkmaaGreatDoor.Bs Go.Proofs.YtnkninjdpgpkmaaGreatDoor.Bv Go.Proofs.YtnkninjdpgpkmaaGreatDoor.Bx Go.Proofs.YtnkninjdpgpkmaaGreatDoor.Na Go.Proofs.YtnkninjdpgpkmaaGreatDoor.Nf Go.Proofs.YtnkninjdpgpkmaaGreatDoor.Nm Go.Proofs.YtnkninjdpgpkmaaGreatDoor.Ni Go.Proofs.YtnkninjdpgpkmaaGreatDoor.Ne Go.Proofs.YtnkninjdpgpkmaaGreatDoor.Nh Go.Proofs.YtnkninjdpgpkmaaGreatDoor.Pm Go.Proofs.YtnkninjdpgpkmaaGreatDoor.Pw Go.Proofs.YtnkninjdpgpkmaaGreatDoor.Pi Go.Proofs.YtnkninjdpgpkmaaGreatDoor.Ko Go.Proofs.YtnkninjdpgpkmaaGreatDoor.Ka Go.Proofs.YtnkninjdpgpkmaaGreatDoor.Kb Go.Proofs.YtnkninjdpgpkmaaGreatDoor.Km Go.Proofs.YtnkninjdpgpkmaaGreatDoor.Kw Go.Proofs.YtnkninjdpgpkmaaGreatDoor.Ks Go.Proofs.YtnkninjdpgpkmaaGreatDoor.Kc Go.Proofs.YtnkninjdpgpkmaaGreatDoor.Kd Go.Proofs.YtnkninjdpgpkmaaGreatDoor.Ke Go.Proofs.YtnkninjdpgpkmaaGreatDoor.Ky Go.Proofs.YtnkninjdpgpkmaaGreatDoor.Kx Go.Proofs.YtnkninjdpgpkmaaGreatDoor.Ku Go.Proofs.YtnkninjdpgpkmaaGreatDoor.Kh

section
variable {w : World} {b : Bool} {k z : Int} {A1 A2 : Option Addr} {n1 c1 n2 c2 : Nat} {f1 f2 : Nat → Int}
set_option maxRecDepth 100000 in
theorem unwritable_sto (HR : k = 0) : Calls Tryz.prog 114 #[hv b k z (.slice A1 n1 c1) (.slice A2 n2 c2)] w fun e w' => e = .returned (.int .i64 (wrM k z n1 f1 n2 f2)) ∧ Below w.heap.size w w' := by
  subst HR
  by_cases h1 : z < 0
  · have HS := Lib.hid (show wrM 0 z n1 f1 n2 f2 = 1 by unfold wrM; rw [if_pos (by omega)])
    go_enter Tryz.func114, Tryz.ntmps114
    go_wp2
    go_ret
    exact ⟨ret_i64 HS.out.symm, below_alloc _ _⟩
  · by_cases h2 : 65535 < z
    · have HS := Lib.hid (show wrM 0 z n1 f1 n2 f2 = 1 by unfold wrM; rw [if_pos (by omega)])
      go_enter Tryz.func114, Tryz.ntmps114
      go_wp2
      go_ret
      exact ⟨ret_i64 HS.out.symm, below_alloc _ _⟩
    · have HS := Lib.hid (show wrM 0 z n1 f1 n2 f2 = 0 by unfold wrM; rw [if_neg (by omega), if_neg (by omega)])
      go_enter Tryz.func114, Tryz.ntmps114
      go_wp2
      go_ret
      exact ⟨ret_i64 HS.out.symm, below_alloc _ _⟩
set_option maxRecDepth 100000 in
theorem unwritable_fix (HR : k = 1) : Calls Tryz.prog 114 #[hv b k z (.slice A1 n1 c1) (.slice A2 n2 c2)] w fun e w' => e = .returned (.int .i64 (wrM k z n1 f1 n2 f2)) ∧ Below w.heap.size w w' := by
  subst HR
  have HS := Lib.hid (show wrM 1 z n1 f1 n2 f2 = 0 by unfold wrM; rw [if_neg (by omega), if_neg (by omega)])
  go_enter Tryz.func114, Tryz.ntmps114
  go_wp2
  go_ret
  exact ⟨ret_i64 HS.out.symm, below_alloc _ _⟩
set_option maxRecDepth 100000 in
theorem unwritable_no (h : k < 0 ∨ 2 < k) : Calls Tryz.prog 114 #[hv b k z (.slice A1 n1 c1) (.slice A2 n2 c2)] w fun e w' => e = .returned (.int .i64 (wrM k z n1 f1 n2 f2)) ∧ Below w.heap.size w w' := by
  have HS := Lib.hid (show wrM k z n1 f1 n2 f2 = 1 by unfold wrM; rw [if_pos (by omega)])
  have h0 : (k == 0) = false := by simp; omega
  have h1 : (k == 1) = false := by simp; omega
  have h2 : (k == 2) = false := by simp; omega
  clear h
  go_enter Tryz.func114, Tryz.ntmps114
  go_wp2
  go_ret
  exact ⟨ret_i64 HS.out.symm, below_alloc _ _⟩
set_option maxRecDepth 100000 in
theorem unwritable_dyn (hk : k = 2) (hn1 : n1 ≤ 9223372036854775807) (hn2 : n2 ≤ 9223372036854775807) (R1 : Hid (row w A1 n1 f1)) (R2 : Hid (row w A2 n2 f2)) :
    Calls Tryz.prog 114 #[hv b k z (.slice A1 n1 c1) (.slice A2 n2 c2)] w fun e w' => e = .returned (.int .i64 (wrM k z n1 f1 n2 f2)) ∧ Below w.heap.size w w' := by
  subst hk
  by_cases hb : n1 < 257 ∨ 286 < n1 ∨ n2 < 1 ∨ 30 < n2
  · have HS := Lib.hid (show wrM 2 z n1 f1 n2 f2 = 1 by unfold wrM; rw [if_neg (by omega), if_pos rfl, if_pos hb])
    clear R1 R2
    rcases (show (n1 < 257) ∨ (257 ≤ n1 ∧ 286 < n1) ∨ (257 ≤ n1 ∧ n1 ≤ 286 ∧ n2 < 1) ∨ (257 ≤ n1 ∧ n1 ≤ 286 ∧ 1 ≤ n2 ∧ 30 < n2) by omega) with h | ⟨h, h'⟩ | ⟨h, h', h2⟩ | ⟨h, h', h2, h3⟩
    all_goals
      clear hb
      go_enter Tryz.func114, Tryz.ntmps114
      go_wp2
      go_ret
      exact ⟨ret_i64 HS.out.symm, below_alloc _ _⟩
  · have HS := Lib.hid (show wrM 2 z n1 f1 n2 f2 = fitsI n1 f1 n2 f2 by unfold wrM; rw [if_neg (by omega), if_pos rfl, if_neg hb])
    have h1 : 257 ≤ n1 := by omega
    have h1' : n1 ≤ 286 := by omega
    have h2 : 1 ≤ n2 := by omega
    have h2' : n2 ≤ 30 := by omega
    clear hb
    have HU := fun u (hu : Below w.heap.size w u) => Lib.hid (unfit_any (c1 := c1) (c2 := c2) h1 hn1 hn2 (Lib.hid (R1.out.below hu)) (Lib.hid (R2.out.below hu)))
    obtain ⟨y, hy⟩ : ∃ y, y = fitsI n1 f1 n2 f2 := ⟨_, rfl⟩
    rw [← hy] at HU HS
    clear hy R1 R2
    go_enter Tryz.func114, Tryz.ntmps114
    go_wp2_with fail
    refine (HU _ (below_alloc _ _)).out.mono ?_
    rintro e w1 ⟨rfl, b1⟩
    go_wp2
    go_ret
    exact ⟨ret_i64 HS.out.symm, grows (below_alloc _ _) b1⟩
theorem unwritable_any (hn1 : n1 ≤ 9223372036854775807) (hn2 : n2 ≤ 9223372036854775807) (R1 : Hid (row w A1 n1 f1)) (R2 : Hid (row w A2 n2 f2)) :
    Calls Tryz.prog 114 #[hv b k z (.slice A1 n1 c1) (.slice A2 n2 c2)] w fun e w' => e = .returned (.int .i64 (wrM k z n1 f1 n2 f2)) ∧ Below w.heap.size w w' := by
  rcases (show k = 0 ∨ k = 1 ∨ k = 2 ∨ (k < 0 ∨ 2 < k) by omega) with h | h | h | h
  · exact unwritable_sto h
  · exact unwritable_fix h
  · exact unwritable_dyn h hn1 hn2 R1 R2
  · exact unwritable_no h
end

theorem upto_L {n : Nat} {f : Nat → Int} (h : ∀ i, i < n → 0 ≤ f i ∧ f i ≤ 15) : upto n f = ofN (L n f) := by
  refine List.ext_getElem? (fun i => ?_)
  by_cases hi : i < n
  · rw [upto_get f hi, at_get (l := ofN (L n f)) (by rw [ofN_length, L_length]; exact hi), ofN_at]
    unfold ix
    rw [← L_eq h hi]
  · rw [List.getElem?_eq_none (by rw [upto_length]; omega), List.getElem?_eq_none (by rw [ofN_length, L_length]; omega)]
def S2 (a b : Option Addr) : Nat → Option Addr | 0 => a | _ => b
def N2 (a b : Nat) : Nat → Nat | 0 => a | _ => b
def F2 (f g : Nat → Int) : Nat → Nat → Int | 0 => f | _ => g
theorem cat2 (a b : Nat) (f g : Nat → Int) : cat (N2 a b) (F2 f g) 2 = upto a f ++ upto b g := by
  show ([] ++ upto a f) ++ upto b g = _
  rw [List.nil_append]
theorem cat_c4 : cat (N2 16 3) (F2 (fun _ => 4) (fun _ => 0)) 2 = ofN C4 := by
  rw [cat2, upto_const, upto_const]; rfl
/-- Two lists in memory, as slices.Concat takes them. -/
theorem lists2 {w : World} {A B : Option Addr} {n m c d : Nat} {f g : Nat → Int} (h1 : row w A n f) (h2 : row w B m g) :
    lists (w.alloc (.cells #[.slice A n c, .slice B m d] 22)) w.heap.size 2 (S2 A B) (N2 n m) (N2 c d) (F2 f g) := by
  have kb := Blk.fresh w 22 #[.slice A n c, .slice B m d]
  refine ⟨by rw [size_alloc]; omega, fun i hi => ?_⟩
  rw [kb.cell]
  rcases (show i = 0 ∨ i = 1 by omega) with rfl | rfl
  · exact ⟨rfl, h1.below (below_alloc _ _)⟩
  · exact ⟨rfl, h2.below (below_alloc _ _)⟩
theorem ints_row {w : World} {base : Nat} {v : Value} {l : List Nat} (h : ints w base 3 v (ofN l)) : ∃ A c, v = .slice A l.length c ∧ row w A l.length (ix l) := by
  obtain ⟨A, c, e⟩ := ints.form h
  rw [ofN_length] at e
  subst e
  have := ints.row h
  rw [ofN_length] at this
  exact ⟨A, c, rfl, this.congr (fun i _ => ofN_at l i)⟩
theorem take_snoc {α : Type} {l : List α} {k : Nat} {x : α} (h : l[k]? = some x) : l.take (k + 1) = l.take k ++ [x] := by
  rw [List.take_add_one, h]; rfl
theorem nth_get {l : List Nat} {k : Nat} (h : k < l.length) : l[k]? = some (nth l k) := by
  unfold nth; rw [List.getD_eq_getElem?_getD, List.getElem?_eq_getElem h]; rfl
/-- A row of the call's own, made when the writer was there, stays under it. -/
theorem ints_stay {base : Nat} {w0 w1 x : World} {g : Nat} {v v6 : Value} {bs : List UInt8} {z : Nat} {l : List Int} (t : wt base w0 g v bs z) (h : ints w1 w0.heap.size 3 v6 l) (o : Only (own g v) w1 x) : ints x w0.heap.size 3 v6 l :=
  h.only o (fun i hi e => by
    have hl := (h.lo i hi).1
    rcases e with e | e
    · have : i < w0.heap.size := by rw [e]; exact Blk.lt t.b
      omega
    · have := (t.o.lt i e).2
      omega)
end Go.Proofs.YtnkninjdpgpkmaaGreatDoor.Ki
namespace Go.Proofs.YtnkninjdpgpkmaaGreatDoor.Kj
open Go.RowKit Go.Proofs.YtnkninjdpgpkmaaGreatDoor.Vm Go.Proofs.YtnkninjdpgpkmaaGreatDoor.Vo Go.Proofs.YtnkninjdpgpkmaaGreatDoor.Bm Go.Proofs.YtnkninjdpgpkmaaGreatDoor.Bt Go.Proofs.YtnkninjdpgpkmaaGreatDoor.Bw Go.Proofs.YtnkninjdpgpkmaaGreatDoor.Bp Go.Proofs.YtnkninjdpgpkmaaGreatDoor.Bs Go.Proofs.YtnkninjdpgpkmaaGreatDoor.Bv Go.Proofs.YtnkninjdpgpkmaaGreatDoor.Bx Go.Proofs.YtnkninjdpgpkmaaGreatDoor.Na Go.Proofs.YtnkninjdpgpkmaaGreatDoor.Nf Go.Proofs.YtnkninjdpgpkmaaGreatDoor.Nm Go.Proofs.YtnkninjdpgpkmaaGreatDoor.Ni Go.Proofs.YtnkninjdpgpkmaaGreatDoor.Ne Go.Proofs.YtnkninjdpgpkmaaGreatDoor.Nh Go.Proofs.YtnkninjdpgpkmaaGreatDoor.Pm Go.Proofs.YtnkninjdpgpkmaaGreatDoor.Pw Go.Proofs.YtnkninjdpgpkmaaGreatDoor.Pi Go.Proofs.YtnkninjdpgpkmaaGreatDoor.Ko Go.Proofs.YtnkninjdpgpkmaaGreatDoor.Ka Go.Proofs.YtnkninjdpgpkmaaGreatDoor.Kb Go.Proofs.YtnkninjdpgpkmaaGreatDoor.Km Go.Proofs.YtnkninjdpgpkmaaGreatDoor.Kw Go.Proofs.YtnkninjdpgpkmaaGreatDoor.Ks Go.Proofs.YtnkninjdpgpkmaaGreatDoor.Kc Go.Proofs.YtnkninjdpgpkmaaGreatDoor.Kd Go.Proofs.YtnkninjdpgpkmaaGreatDoor.Ke Go.Proofs.YtnkninjdpgpkmaaGreatDoor.Ky Go.Proofs.YtnkninjdpgpkmaaGreatDoor.Kx Go.Proofs.YtnkninjdpgpkmaaGreatDoor.Ku Go.Proofs.YtnkninjdpgpkmaaGreatDoor.Kh Go.Proofs.YtnkninjdpgpkmaaGreatDoor.Ki

section
variable {base : Nat} {U w : World} {g N z : Nat} {u v : Value} {l : List (Nat × Nat)} {A1 A2 : Option Addr} {n1 c1 n2 c2 : Nat} {f1 f2 : Nat → Int}
set_option maxHeartbeats 2000000 in
set_option maxRecDepth 100000 in
theorem writeLengths_any (h : gone base U g u N z w v l) (hz : z + bl l ≤ 562949953410000) (HR : Hid (∀ x, Only (own g v) w x → row x A1 n1 f1 ∧ row x A2 n2 f2 ∧ ordM x))
    (h1 : 257 ≤ n1) (h1' : n1 ≤ 286) (h2 : 1 ≤ n2) (h2' : n2 ≤ 30) (hf1 : ∀ i, i < n1 → 0 ≤ f1 i ∧ f1 i ≤ 15) (hf2 : ∀ i, i < n2 → 0 ≤ f2 i ∧ f2 i ≤ 15) :
    Calls Tryz.prog 117 #[.pointer (some ⟨g, 0, none⟩), .slice A1 n1 c1, .slice A2 n2 c2] w fun e w' => e = .returned (.tuple #[]) ∧ ∃ v', gone base U g u N z w' v' (l ++ outD (L n1 f1) (L n2 f2)) := by
  obtain ⟨X, hX⟩ : ∃ X, X = L n1 f1 ++ L n2 f2 := ⟨_, rfl⟩
  have HXL : Hid (X.length = n1 + n2) := Lib.hid (by rw [hX, List.length_append, L_length, L_length])
  have HX16 : Hid (∀ x ∈ X, x < 16) := Lib.hid (by
    intro x hx
    rw [hX] at hx
    rcases List.mem_append.1 hx with hx | hx
    · exact L_mem hf1 x hx
    · exact L_mem hf2 x hx)
  have HXC : Hid (cat (N2 n1 n2) (F2 f1 f2) 2 = ofN X) := Lib.hid (by rw [cat2, upto_L hf1, upto_L hf2, hX, ofN_append])
  have HXO : Hid (outD (L n1 f1) (L n2 f2) = [(n1 - 257, 5), (n2 - 1, 5), (15, 4)] ++ ords.map (fun o => (c4 o, 3)) ++ X.map (fun x => (turnN x 4, 4))) := Lib.hid (by
    unfold outD; rw [L_length, L_length, hX])
  rw [HXO.out]
  obtain ⟨bs, t0, e0⟩ := h.t
  have HT0 := Lib.hid t0
  have HE0 := Lib.hid e0
  have H := Lib.hid h
  obtain ⟨Z, hZ⟩ : ∃ Z, Z = z + bl l := ⟨_, rfl⟩
  have HZ := Lib.hid hZ
  rw [← hZ] at HT0 hz
  clear hX hf1 hf2 t0 e0 h hZ
  go_enter Tryz.func117, Tryz.ntmps117
  go_wp2_with fail
  refine (equal_any 4 (n := 16) 16 rfl (by omega) (by omega) w).mono ?_
  rintro e w1 ⟨g1, rfl, k1, p1, b1⟩
  have K1 := Lib.hid k1; have B1 := Lib.hid b1; clear k1 b1 p1
  go_wp2_with fail
  refine (equal_any 0 (n := 3) 3 rfl (by omega) (by omega) w1).mono ?_
  rintro e w2 ⟨g2, rfl, k2, p2, b2⟩
  have K2 := Lib.hid k2; have B2 := Lib.hid b2; clear k2 b2 p2
  go_wp2_with fail
  have HL2 := Lib.hid (lists2 (c := 16) (d := 3) (row_of_blk (K1.out.below B2.out)) (row_of_blk K2.out))
  have B3 : Hid (Below w2.heap.size w2 (w2.alloc (.cells #[.slice (some ⟨g1, 0, none⟩) 16 16, .slice (some ⟨g2, 0, none⟩) 3 3] 22))) := Lib.hid (below_alloc _ _)
  obtain ⟨w3, hw3⟩ : ∃ w3, w3 = w2.alloc (.cells #[.slice (some ⟨g1, 0, none⟩) 16 16, .slice (some ⟨g2, 0, none⟩) 3 3] 22) := ⟨_, rfl⟩
  rw [← hw3] at HL2 B3 ⊢
  clear hw3
  have HB3 : Hid (Below w.heap.size w w3) := Lib.hid (grows (grows B1.out B2.out) B3.out)
  refine (Concat_any (k := 2) (by omega) (by rw [cat_c4, ofN_length]; decide) (by rw [cat_c4, ofN_length]; decide) HL2).mono ?_
  rintro e w6 ⟨v6, rfl, k6, b6⟩
  rw [cat_c4] at k6
  obtain ⟨A6, c6, hv6, _⟩ := ints_row k6
  have hv6' : v6 = .slice A6 19 c6 := hv6
  subst hv6'
  have T3 : Hid (wt base w3 g v bs Z) := Lib.hid (wt_below HT0.out HB3.out)
  have HB6 : Hid (Below w.heap.size w w6) := Lib.hid (grows HB3.out b6)
  -- the code's row stays
  have R6 : Hid (∀ x, Only (own g v) w6 x → row x A6 19 c4') := Lib.hid (fun x o => by
    have h := ints_row (ints_stay T3.out k6 o)
    obtain ⟨A, c, e, r⟩ := h
    injection e with e _ _
    subst e
    exact r.congr (fun i hi => by unfold ix c4'; rw [C4_nth i hi]))
  have HR6 : Hid (∀ x, Only (own g v) w6 x → row x A1 n1 f1 ∧ row x A2 n2 f2 ∧ ordM x) := Lib.hid (fun x o => HR.out x ((Only.of_below HB6.out).trans o))
  have G6 : Hid (gone base w6 g v (num bs) Z w6 v []) := Lib.hid (gone.start (wt_below T3.out b6) (Nat.le_trans H.out.size HB6.out.size))
  have H6 : Hid (gone base U g u N z w6 v l) := Lib.hid (H.out.below HB6.out)
  clear HL2 K1 K2 B1 B2 B3 k6 b6 hv6 T3 HR HT0 HB3 H HB6
  go_wp2_with fail
  refine (G6.out.put (y := n1 - 257) (m := 5) (by omega) rfl (by omega) (by omega) (by simp [bl]; omega)).mono ?_
  rintro e w7 ⟨rfl, v7, g7⟩
  have G7 := Lib.hid g7; clear g7
  go_wp2_with fail
  refine (G7.out.put (y := n2 - 1) (m := 5) (by omega) rfl (by omega) (by omega) (by simp [bl]; omega)).mono ?_
  rintro e w8 ⟨rfl, v8, g8⟩
  have G8 := Lib.hid g8; clear g8
  go_wp2_with fail
  refine (G8.out.put (y := 15) (m := 4) (by omega) rfl (by omega) (by omega) (by simp [bl]; omega)).mono ?_
  rintro e w9 ⟨rfl, v9, g9⟩
  have G9 : Hid (gone base w6 g v (num bs) Z w9 v9 [(n1 - 257, 5), (n2 - 1, 5), (15, 4)]) := Lib.hid g9
  clear g9 G7 G8
  go_wp2_with fail
  go_loopw [29, 7] (fun s29 _ wr => ∃ (k : Nat) (v' : Value), s29 = .int .i64 (k : Int) ∧ k ≤ 19 ∧ Hid (gone base w6 g v (num bs) Z wr v' ([(n1 - 257, 5), (n2 - 1, 5), (15, 4)] ++ (ords.take k).map (fun o => (c4 o, 3))))) (fun s29 _ _ => 19 - (intOf s29).toNat)
  case atStart => exact ⟨0, v9, rfl, by omega, Lib.hid (by simpa using G9.out)⟩
  case round =>
    obtain ⟨k, v10, rfl, hk, G10⟩ := hrel
    by_cases hk19 : k < 19
    · obtain ⟨o, ho⟩ : ∃ o, o = ord k := ⟨_, rfl⟩
      have ho19 : o < 19 := by rw [ho]; exact ord_lt k hk19
      have HO := Lib.hid ho
      have o1 := (HR6.out wr G10.out.o).2.2.2 k hk19
      rw [← ho] at o1
      obtain ⟨b6, off6, hA6, hb6, o2⟩ := R6.out wr G10.out.o o ho19
      subst hA6
      obtain ⟨q, hq⟩ : ∃ q, q = c4 o := ⟨_, rfl⟩
      have hq8 : q < 8 := by rw [hq]; unfold c4; split <;> omega
      have HQ := Lib.hid hq
      rw [show c4' o = (q : Int) by rw [hq]; rfl] at o2
      have hbl : Hid (bl ([(n1 - 257, 5), (n2 - 1, 5), (15, 4)] ++ (ords.take k).map (fun o => (c4 o, 3))) ≤ 100) := Lib.hid (by
        rw [bl_append, bl_map, List.length_take, ords_length]; simp only [bl]; omega)
      clear ho hq
      go_wp2_with fail
      refine (G10.out.put (y := q) (m := 3) rfl rfl (by omega) (by omega) (by have := hbl.out; omega)).mono ?_
      rintro e w11 ⟨rfl, v11, g11⟩
      have G11 := Lib.hid g11; clear g11
      go_wp2
      go_roundw
      case rel =>
        refine ⟨k + 1, v11, by go_num, by omega, Lib.hid ?_⟩
        have e : ords[k]? = some o := by rw [HO.out]; exact nth_get hk19
        have h := G11.out
        rw [take_snoc e, List.map_append, ← List.append_assoc]
        rw [HQ.out] at h
        exact h
      case measure => simp [intOf]; omega
    · obtain rfl : k = 19 := by omega
      have G11 : Hid (gone base w6 g v (num bs) Z wr v10 ([(n1 - 257, 5), (n2 - 1, 5), (15, 4)] ++ ords.map (fun o => (c4 o, 3)))) := Lib.hid (by
        have h := G10.out
        rw [List.take_of_length_le (by rw [ords_length]; omega)] at h
        exact h)
      clear G10
      go_wp2_with fail
      obtain ⟨r1, r2, _⟩ := HR6.out wr G11.out.o
      have HL2 := Lib.hid (lists2 (c := c1) (d := c2) r1 r2)
      have B3 : Hid (Below wr.heap.size wr (wr.alloc (.cells #[.slice A1 n1 c1, .slice A2 n2 c2] 22))) := Lib.hid (below_alloc _ _)
      obtain ⟨w12, hw12⟩ : ∃ w3, w3 = wr.alloc (.cells #[.slice A1 n1 c1, .slice A2 n2 c2] 22) := ⟨_, rfl⟩
      rw [← hw12] at HL2 B3 ⊢
      clear hw12 r1 r2
      refine (Concat_any (k := 2) (by omega) (by rw [HXC.out, ofN_length, HXL.out]; omega) (by rw [HXC.out, ofN_length, HXL.out]; omega) HL2).mono ?_
      rintro e w13 ⟨v13, rfl, k13, b13⟩
      rw [HXC.out] at k13
      obtain ⟨A13, c13, hv13, _⟩ := ints_row k13
      rw [HXL.out] at hv13
      subst hv13
      have G12 : Hid (gone base w6 g v (num bs) Z w12 v10 ([(n1 - 257, 5), (n2 - 1, 5), (15, 4)] ++ ords.map (fun o => (c4 o, 3)))) := Lib.hid (G11.out.below B3.out)
      have G13 : Hid (gone base w6 g v (num bs) Z w13 v10 ([(n1 - 257, 5), (n2 - 1, 5), (15, 4)] ++ ords.map (fun o => (c4 o, 3)))) := Lib.hid (G12.out.below b13)
      obtain ⟨bs12, t12, e12⟩ := G12.out.t
      have R13 : Hid (∀ x, Only (own g v10) w13 x → row x A13 (n1 + n2) (ix X)) := Lib.hid (fun x o => by
        obtain ⟨A, c, e, r⟩ := ints_row (ints_stay t12 k13 o)
        injection e with e _ _
        subst e
        rw [HXL.out] at r
        exact r)
      have HBL : Hid (bl ([(n1 - 257, 5), (n2 - 1, 5), (15, 4)] ++ ords.map (fun o => (c4 o, 3))) = 71) := Lib.hid (by rw [bl_append, bl_map, ords_length]; simp only [bl])
      have G14 : Hid (gone base w13 g v10 (num bs12) (Z + 71) w13 v10 []) := Lib.hid (by
        rw [HBL.out] at t12
        exact gone.start (wt_below t12 b13) G13.out.size)
      have E12 := Lib.hid e12
      clear HL2 B3 k13 b13 G11 G12 t12 e12 G9 G6
      go_wp2_with fail
      go_loopw [46, 9] (fun s46 _ wr => ∃ (k : Nat) (v' : Value), s46 = .int .i64 (k : Int) ∧ k ≤ n1 + n2 ∧ Hid (gone base w13 g v10 (num bs12) (Z + 71) wr v' ((X.take k).map (fun x => (turnN x 4, 4))))) (fun s46 _ _ => (n1 + n2) - (intOf s46).toNat)
      case atStart => exact ⟨0, v10, rfl, by omega, Lib.hid (by simpa using G14.out)⟩
      case round =>
        obtain ⟨k, v15, rfl, hk, G15⟩ := hrel
        by_cases hkn : k < n1 + n2
        · have hkn' : (k : Int) < (n1 : Int) + (n2 : Int) := by omega
          have hkn'' : (k : Int) < ((n1 + n2 : Nat) : Int) := by omega
          obtain ⟨x, hx⟩ : ∃ x, x = nth X k := ⟨_, rfl⟩
          have hxk : X[k]? = some x := by rw [hx]; exact nth_get (by rw [HXL.out]; exact hkn)
          have hx16 : x < 16 := HX16.out x (List.mem_of_getElem? hxk)
          obtain ⟨b13, off13, hA13, hb13, o1⟩ := R13.out wr G15.out.o k hkn
          subst hA13
          rw [show ix X k = (x : Int) by rw [hx]; rfl] at o1
          have HXK := Lib.hid hxk
          have hbl : Hid (bl ((X.take k).map (fun x => (turnN x 4, 4))) ≤ 4 * 316) := Lib.hid (by
            rw [bl_map, List.length_take, HXL.out]; omega)
          clear hx hxk
          go_wp2_with fail
          refine (G15.out.code (x := x) rfl hx16 (by have := hbl.out; omega) (Lib.hid (fun y o => R6.out y (G13.out.keep (G15.out.keep o))))).mono ?_
          rintro e w16 ⟨rfl, v16, g16⟩
          have G16 := Lib.hid g16; clear g16
          go_wp2
          go_roundw
          case rel =>
            refine ⟨k + 1, v16, by go_num, by omega, Lib.hid ?_⟩
            have h := G16.out
            rw [take_snoc HXK.out, List.map_append]
            exact h
          case measure => simp [intOf]; omega
        · obtain rfl : k = n1 + n2 := by omega
          have hkn' : ¬ ((n1 : Int) + (n2 : Int) < (n1 : Int) + (n2 : Int)) := by omega
          have G17 : Hid (gone base w13 g v10 (num bs12) (Z + 71) wr v15 (X.map (fun x => (turnN x 4, 4)))) := Lib.hid (by
            have h := G15.out
            rw [List.take_of_length_le (by rw [HXL.out]; omega)] at h
            exact h)
          clear G15
          go_wp2
          go_end0
          refine ⟨rfl, v15, ?_⟩
          have h := G13.out.trans G17.out E12.out (by rw [HBL.out])
          exact H6.out.trans h HE0.out HZ.out
end
end Go.Proofs.YtnkninjdpgpkmaaGreatDoor.Kj
namespace Go.Proofs.YtnkninjdpgpkmaaGreatDoor.Kl
open Go.RowKit Go.Proofs.YtnkninjdpgpkmaaGreatDoor.Vm Go.Proofs.YtnkninjdpgpkmaaGreatDoor.Vo Go.Proofs.YtnkninjdpgpkmaaGreatDoor.Bm Go.Proofs.YtnkninjdpgpkmaaGreatDoor.Bt Go.Proofs.YtnkninjdpgpkmaaGreatDoor.Bw Go.Proofs.YtnkninjdpgpkmaaGreatDoor.Bp Go.Proofs.YtnkninjdpgpkmaaGreatDoor.Bs Go.Proofs.YtnkninjdpgpkmaaGreatDoor.Bv Go.Proofs.YtnkninjdpgpkmaaGreatDoor.Bx Go.Proofs.YtnkninjdpgpkmaaGreatDoor.Na Go.Proofs.YtnkninjdpgpkmaaGreatDoor.Nf Go.Proofs.YtnkninjdpgpkmaaGreatDoor.Nm Go.Proofs.YtnkninjdpgpkmaaGreatDoor.Ni Go.Proofs.YtnkninjdpgpkmaaGreatDoor.Ne Go.Proofs.YtnkninjdpgpkmaaGreatDoor.Nh Go.Proofs.YtnkninjdpgpkmaaGreatDoor.Pm Go.Proofs.YtnkninjdpgpkmaaGreatDoor.Pw Go.Proofs.YtnkninjdpgpkmaaGreatDoor.Pi Go.Proofs.YtnkninjdpgpkmaaGreatDoor.Ko Go.Proofs.YtnkninjdpgpkmaaGreatDoor.Ka Go.Proofs.YtnkninjdpgpkmaaGreatDoor.Kb Go.Proofs.YtnkninjdpgpkmaaGreatDoor.Km Go.Proofs.YtnkninjdpgpkmaaGreatDoor.Kw Go.Proofs.YtnkninjdpgpkmaaGreatDoor.Ks Go.Proofs.YtnkninjdpgpkmaaGreatDoor.Kc Go.Proofs.YtnkninjdpgpkmaaGreatDoor.Kd Go.Proofs.YtnkninjdpgpkmaaGreatDoor.Ke Go.Proofs.YtnkninjdpgpkmaaGreatDoor.Ky Go.Proofs.YtnkninjdpgpkmaaGreatDoor.Kx Go.Proofs.YtnkninjdpgpkmaaGreatDoor.Ku Go.Proofs.YtnkninjdpgpkmaaGreatDoor.Kh Go.Proofs.YtnkninjdpgpkmaaGreatDoor.Ki Go.Proofs.YtnkninjdpgpkmaaGreatDoor.Kj

theorem _root_.Go.Proofs.YtnkninjdpgpkmaaGreatDoor.Kh.gone.congr {base : Nat} {U w : World} {g N z : Nat} {u v : Value} {l l' : List (Nat × Nat)} (h : gone base U g u N z w v l) (e1 : bl l = bl l') (e2 : bn l = bn l') : gone base U g u N z w v l' := by
  obtain ⟨bs, t, e⟩ := h.t
  exact ⟨⟨bs, by rw [← e1]; exact t, by rw [← e2]; exact e⟩, h.o, h.a, h.b⟩
/-- What Write writes. -/
def wrO (b : Bool) (k z : Int) (n1 : Nat) (f1 : Nat → Int) (n2 : Nat) (f2 : Nat → Int) (z0 : Nat) : List (Nat × Nat) := if wrM k z n1 f1 n2 f2 = 0 then outM ⟨b, k.toNat, z.toNat, L n1 f1, L n2 f2⟩ z0 else []

section
variable {base : Nat} {w : World} {g z0 : Nat} {v : Value} {bs : List UInt8} {b : Bool} {k z : Int} {A1 A2 : Option Addr} {n1 c1 n2 c2 : Nat} {f1 f2 : Nat → Int}
set_option maxHeartbeats 2000000 in
set_option maxRecDepth 100000 in
theorem Write_any (HW : Hid (wt base w g v bs z0)) (hb : base ≤ w.heap.size) (hz : z0 ≤ 281474976710656) (hn1 : n1 ≤ 9223372036854775807) (hn2 : n2 ≤ 9223372036854775807) (HR : Hid (∀ x, Only (own g v) w x → row x A1 n1 f1 ∧ row x A2 n2 f2 ∧ ordM x)) :
    Calls Tryz.prog 80 #[.pointer (some ⟨g, 0, none⟩), hv b k z (.slice A1 n1 c1) (.slice A2 n2 c2)] w fun e w' => e = .returned (.int .i64 (wrM k z n1 f1 n2 f2)) ∧ ∃ v', gone base w g v (num bs) z0 w' v' (wrO b k z n1 f1 n2 f2 z0) := by
  have b1 : Below w.heap.size w (w.alloc (.cells #[.bool b, .int .i64 k, .int .i64 z, .slice A1 n1 c1, .slice A2 n2 c2] 143)) := below_alloc _ _
  have k1 := Blk.fresh w 143 #[.bool b, .int .i64 k, .int .i64 z, .slice A1 n1 c1, .slice A2 n2 c2]
  obtain ⟨w1, hw1⟩ : ∃ w1, w1 = w.alloc (.cells #[.bool b, .int .i64 k, .int .i64 z, .slice A1 n1 c1, .slice A2 n2 c2] 143) := ⟨_, rfl⟩
  rw [← hw1] at b1 k1
  have B1 := Lib.hid b1
  have HK : Hid (∀ x vx lx, gone base w1 g v (num bs) z0 x vx lx → Blk x w.heap.size 143 #[.bool b, .int .i64 k, .int .i64 z, .slice A1 n1 c1, .slice A2 n2 c2]) := Lib.hid (fun x vx lx h => by
    refine k1.only h.o (fun e => ?_)
    rcases e with e | e
    · have := Blk.lt HW.out.b; omega
    · have := (HW.out.o.lt _ e).2; omega)
  have HR1 : Hid (∀ x vx lx, gone base w1 g v (num bs) z0 x vx lx → ∀ y, Only (own g vx) x y → row y A1 n1 f1 ∧ row y A2 n2 f2 ∧ ordM y) := Lib.hid (fun x vx lx h y o => HR.out y ((Only.of_below B1.out).trans (h.keep o)))
  have G1 : Hid (gone base w1 g v (num bs) z0 w1 v []) := Lib.hid (gone.start (wt_below HW.out b1) (Nat.le_trans hb b1.size))
  have HE : Hid (∀ x vx lx lx', gone base w1 g v (num bs) z0 x vx lx → bl lx = bl lx' → bn lx = bn lx' → gone base w g v (num bs) z0 x vx lx') := Lib.hid (fun x vx lx lx' h e1 e2 => by
    have h0 := (gone.start HW.out hb).below B1.out
    have := h0.trans (h.congr e1 e2) (by simp [bn]) (by simp [bl])
    simpa using this)
  have HO : Hid (∀ x vx lx, gone base w1 g v (num bs) z0 x vx lx → bl lx = bl (wrO b k z n1 f1 n2 f2 z0) → bn lx = bn (wrO b k z n1 f1 n2 f2 z0) → ∃ v', gone base w g v (num bs) z0 x v' (wrO b k z n1 f1 n2 f2 z0)) := Lib.hid (fun x vx lx h e1 e2 => ⟨vx, HE.out x vx lx _ h e1 e2⟩)
  obtain ⟨W, hWO⟩ : ∃ W, W = wrO b k z n1 f1 n2 f2 z0 := ⟨_, rfl⟩
  have HWO := Lib.hid hWO
  rw [← hWO] at HO ⊢
  obtain ⟨er, her⟩ : ∃ er, er = wrM k z n1 f1 n2 f2 := ⟨_, rfl⟩
  have HER := Lib.hid her
  rw [← her]
  have HU : Hid (∀ x, row x A1 n1 f1 → row x A2 n2 f2 → Calls Tryz.prog 114 #[hv b k z (.slice A1 n1 c1) (.slice A2 n2 c2)] x fun e w' => e = .returned (.int .i64 er) ∧ Below x.heap.size x w') := Lib.hid (fun x r1 r2 => by
    rw [her]; exact unwritable_any hn1 hn2 (Lib.hid r1) (Lib.hid r2))
  clear k1 b1 hWO her HR HW HE hn1 hn2 hb
  go_enter Tryz.func80, Tryz.ntmps80
  go_wp2_with fail
  rw [← hw1]
  clear hw1
  refine (G1.out.put (y := 0) (m := 0) rfl rfl (by omega) (by omega) (by simp [bl]; omega)).mono ?_
  rintro e w2 ⟨rfl, v2, g2⟩
  have G2 : Hid (gone base w1 g v (num bs) z0 w2 v2 [(0, 0)]) := Lib.hid g2
  have K2 := Lib.hid (HK.out _ _ _ g2)
  have HR2 := Lib.hid (HR1.out _ _ _ g2 w2 (Only.refl _ _))
  clear g2 G1
  go_wp2_with (refine wpList_load_row rfl 143 _ rfl w.heap.size rfl _ _ _ _ K2.out Tryz.underlying143 rfl sizeH ?_)
  refine (HU.out w2 HR2.out.1 HR2.out.2.1).mono ?_
  rintro e w3 ⟨rfl, b3⟩
  have G3 : Hid (gone base w1 g v (num bs) z0 w3 v2 [(0, 0)]) := Lib.hid (G2.out.below b3)
  clear b3 G2 K2 HR2
  by_cases he : er = 0
  · have hok := wr_ok (kind := k) (size := z) (n := n1) (f := f1) (m := n2) (g := f2) b (HER.out.symm.trans he)
    obtain ⟨_, hk0, hk2, hsz, hdy⟩ := hok
    have HD := Lib.hid hdy
    have HSZ := Lib.hid hsz
    subst he
    have HWO2 : Hid (W = outM ⟨b, k.toNat, z.toNat, L n1 f1, L n2 f2⟩ z0) := Lib.hid (by rw [HWO.out, wrO, if_pos HER.out.symm])
    clear hdy hsz
    have k3 := HK.out _ _ _ G3.out
    have d0 := k3.cell 0
    clear k3
    go_wp2_with fail
    refine (bit_any b w3).mono ?_
    rintro e w' ⟨rfl, hw⟩
    rw [← hw]
    clear hw d0
    go_wp2_with fail
    refine (G3.out.put (y := b.toNat) (m := 1) rfl rfl (by cases b <;> decide) (by omega) (by simp [bl]; omega)).mono ?_
    rintro e w4 ⟨rfl, v4, g4⟩
    have G4 : Hid (gone base w1 g v (num bs) z0 w4 v4 [(0, 0), (b.toNat, 1)]) := Lib.hid g4
    have d1 := (HK.out _ _ _ g4).cell 1
    clear g4 G3
    rcases (show k = 0 ∨ k = 1 ∨ k = 2 by omega) with hk | hk | hk
    · subst hk
      go_wp2_with fail
      refine (G4.out.put (y := 0) (m := 2) rfl rfl (by omega) (by omega) (by simp [bl]; omega)).mono ?_
      rintro e w5 ⟨rfl, v5, g5⟩
      have G5 : Hid (gone base w1 g v (num bs) z0 w5 v5 [(0, 0), (b.toNat, 1), (0, 2)]) := Lib.hid g5
      clear d1
      have d1 := (HK.out _ _ _ g5).cell 1
      have d2 := (HK.out _ _ _ g5).cell 2
      obtain ⟨n, hn⟩ := Int.eq_ofNat_of_zero_le (HSZ.out (by simp)).1
      have hn16 : n ≤ 65535 := by have := (HSZ.out (by simp)).2; omega
      have HN := Lib.hid hn
      clear g5 G4 hn
      go_wp2_with fail
      refine (writeSize_any (n := n) HN.out hn16 G5.out (by simp [bl]; omega)).mono ?_
      rintro e w6 ⟨rfl, v6, g6⟩
      have G6 := Lib.hid g6
      clear d1 d2
      have d1 := (HK.out _ _ _ g6).cell 1
      clear g6
      go_wp2
      go_ret
      refine ⟨rfl, HO.out _ _ _ G6.out ?_ ?_⟩
      all_goals
        rw [HWO2.out, HN.out]
        unfold outM
        simp [bl, bn]
    · subst hk
      go_wp2_with fail
      refine (G4.out.put (y := 1) (m := 2) rfl rfl (by omega) (by omega) (by simp [bl]; omega)).mono ?_
      rintro e w5 ⟨rfl, v5, g5⟩
      have G5 : Hid (gone base w1 g v (num bs) z0 w5 v5 [(0, 0), (b.toNat, 1), (1, 2)]) := Lib.hid g5
      clear d1
      have d1 := (HK.out _ _ _ g5).cell 1
      clear g5 G4
      go_wp2
      go_ret
      refine ⟨rfl, HO.out _ _ _ G5.out ?_ ?_⟩
      all_goals
        rw [HWO2.out]
        unfold outM
        simp [bl, bn]
    · subst hk
      go_wp2_with fail
      refine (G4.out.put (y := 2) (m := 2) rfl rfl (by omega) (by omega) (by simp [bl]; omega)).mono ?_
      rintro e w5 ⟨rfl, v5, g5⟩
      have G5 : Hid (gone base w1 g v (num bs) z0 w5 v5 [(0, 0), (b.toNat, 1), (2, 2)]) := Lib.hid g5
      clear d1
      have d1 := (HK.out _ _ _ g5).cell 1
      have d3 := (HK.out _ _ _ g5).cell 3
      have d4 := (HK.out _ _ _ g5).cell 4
      obtain ⟨q1, q2, q3, q4, q5, q6⟩ := HD.out (by simp)
      have Q1 := Lib.hid q1
      have Q2 := Lib.hid q2
      clear g5 G4 q1 q2
      go_wp2_with fail
      refine (writeLengths_any G5.out (by simp [bl]; omega) (Lib.hid (HR1.out _ _ _ G5.out)) q3 q4 q5 q6 Q1.out Q2.out).mono ?_
      rintro e w6 ⟨rfl, v6, g6⟩
      have G6 := Lib.hid g6
      clear d1 d3 d4 g6
      go_wp2
      go_ret
      refine ⟨rfl, HO.out _ _ _ G6.out ?_ ?_⟩
      all_goals
        rw [HWO2.out]
        unfold outM
        simp [bl, bn]
  · have hne : (er != 0) = true := by simpa using he
    have HNE := Lib.hid he
    clear he
    go_wp2
    go_ret
    refine ⟨rfl, HO.out _ _ _ G3.out ?_ ?_⟩
    all_goals
      rw [HWO.out, wrO, if_neg (by rw [← HER.out]; exact HNE.out)]
      rfl
end
end Go.Proofs.YtnkninjdpgpkmaaGreatDoor.Kl
