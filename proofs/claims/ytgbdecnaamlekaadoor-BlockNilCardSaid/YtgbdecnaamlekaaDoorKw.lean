/-
  Heads of blocks that are written, in numbers: what was written is read as it was.
  Conditions: as each theorem says. Nothing of the program is named here.
-/
import Derived.Test.YtgbdecnaamlekaaDoorKm
namespace Go.Proofs.YtgbdecnaamlekaaDoor.Kw
open Go.Proofs.YtgbdecnaamlekaaDoor.Bm Go.Proofs.YtgbdecnaamlekaaDoor.Nm Go.Proofs.YtgbdecnaamlekaaDoor.Ni Go.Proofs.YtgbdecnaamlekaaDoor.Ne Go.Proofs.YtgbdecnaamlekaaDoor.Nh Go.Proofs.YtgbdecnaamlekaaDoor.Pm Go.Proofs.YtgbdecnaamlekaaDoor.Km

/-- Numbers with their bits, one behind the other: how many bits, and which. -/
def bl : List (Nat × Nat) → Nat
  | [] => 0
  | x :: r => x.2 + bl r
def bn : List (Nat × Nat) → Nat
  | [] => 0
  | x :: r => x.1 + 2 ^ x.2 * bn r
theorem bl_append : ∀ a b : List (Nat × Nat), bl (a ++ b) = bl a + bl b
  | [], b => by simp [bl]
  | x :: a, b => by rw [List.cons_append, bl, bl, bl_append a b]; omega
theorem bn_append : ∀ a b : List (Nat × Nat), bn (a ++ b) = bn a + 2 ^ bl a * bn b
  | [], b => by simp [bn, bl]
  | x :: a, b => by
    rw [List.cons_append, bn, bn, bl, bn_append a b, Nat.pow_add, Nat.mul_add, Nat.mul_assoc]; omega
def fits2 (l : List (Nat × Nat)) : Prop := ∀ x ∈ l, x.1 < 2 ^ x.2
theorem bn_lt : ∀ l : List (Nat × Nat), fits2 l → bn l < 2 ^ bl l
  | [], _ => by simp [bn, bl]
  | x :: r, h => by
    rw [bn, bl, Nat.pow_add]
    have h1 : x.1 < 2 ^ x.2 := h x (by simp)
    have h2 := bn_lt r (fun y hy => h y (by simp [hy]))
    calc x.1 + 2 ^ x.2 * bn r < 2 ^ x.2 + 2 ^ x.2 * bn r := by omega
      _ = 2 ^ x.2 * (bn r + 1) := by rw [Nat.mul_add]; omega
      _ ≤ 2 ^ x.2 * 2 ^ bl r := Nat.mul_le_mul_left _ h2
/-- A writer that has gone on. -/
theorem bn_snoc (l : List (Nat × Nat)) (v m : Nat) : bn (l ++ [(v, m)]) = bn l + v * 2 ^ bl l := by
  rw [bn_append]; simp [bn, Nat.mul_comm]
theorem bl_snoc (l : List (Nat × Nat)) (v m : Nat) : bl (l ++ [(v, m)]) = bl l + m := by rw [bl_append]; simp [bl]
theorem on_put (N z : Nat) (l : List (Nat × Nat)) (v m : Nat) : N + bn l * 2 ^ z + v * 2 ^ (z + bl l) = N + bn (l ++ [(v, m)]) * 2 ^ z := by
  rw [bn_snoc, Nat.add_mul, Nat.pow_add, Nat.mul_assoc, Nat.mul_comm (2 ^ bl l), Nat.add_assoc]
theorem written {N z : Nat} (h : N < 2 ^ z) {l : List (Nat × Nat)} (hl : fits2 l) : (N + bn l * 2 ^ z) / 2 ^ z % 2 ^ bl l = bn l := by
  rw [Nat.add_mul_div_right _ _ (Nat.two_pow_pos z), Nat.div_eq_of_lt h, Nat.zero_add, Nat.mod_eq_of_lt (bn_lt l hl)]
/-- What stands at the place of one of them. -/
theorem peek_in {N z : Nat} {p q : List (Nat × Nat)} {v m : Nat} (h : N / 2 ^ z % 2 ^ bl (p ++ (v, m) :: q) = bn (p ++ (v, m) :: q)) (hf : fits2 (p ++ (v, m) :: q)) : peekN N (z + bl p) m = v := by
  have hp : fits2 p := fun x hx => hf x (by simp [hx])
  have hv : v < 2 ^ m := hf (v, m) (by simp)
  have hB : bl (p ++ (v, m) :: q) = bl p + m + bl q := by rw [bl_append, bl]; omega
  have h1 : N / 2 ^ z / 2 ^ bl p % 2 ^ m = v := by
    rw [← div_mod (N / 2 ^ z) (bl p) (bl (p ++ (v, m) :: q)) m (by omega), h, bn_append, Nat.add_mul_div_left _ _ (Nat.two_pow_pos _), Nat.div_eq_of_lt (bn_lt p hp), Nat.zero_add, bn, Nat.add_mul_mod_self_left, Nat.mod_eq_of_lt hv]
  unfold peekN
  rw [Nat.pow_add, ← Nat.div_div_eq_div_mul]
  exact h1

/-- The code of lengths that is written. -/
def C4 : List Nat := [4, 4, 4, 4, 4, 4, 4, 4, 4, 4, 4, 4, 4, 4, 4, 4, 0, 0, 0]
def c4 (j : Nat) : Nat := if j < 16 then 4 else 0
theorem C4_nth : ∀ j, j < 19 → nth C4 j = c4 j := by decide
theorem C4_15 (j : Nat) : nth C4 j ≤ 15 := by
  by_cases h : j < 19
  · rw [C4_nth j h]; unfold c4; split <;> omega
  · unfold nth; rw [List.getD_eq_getElem?_getD, List.getElem?_eq_none (by show 19 ≤ j; omega)]; simp
theorem C4_code : ∀ x, x < 16 → code C4 x = x := by decide
theorem C4_sum : ksum C4 16 = 32768 := by decide
theorem got4 {N a left x : Nat} (hx : x < 16) (hp : peekN N a 4 = turnN x 4) (hl : 4 ≤ left) : got C4 N a left = some x := by
  have hn : nth C4 x = 4 := by rw [C4_nth x (by omega)]; unfold c4; rw [if_pos hx]
  refine got_some C4_15 (show x < 19 by omega) ((reads_iff C4_15 N a x).2 ⟨by omega, ?_⟩) (by omega)
  rw [hn, C4_code x hx, ← hi_peek, hp, turnN_turnN, Nat.mod_eq_of_lt hx]
/-- Lengths that stand one behind the other by that code. -/
theorem seq4 {N M n : Nat} : ∀ (r : List Nat) (a : Nat) (l : List Nat), n = l.length + r.length → (∀ x ∈ r, x < 16) → (∀ i x, r[i]? = some x → peekN N (a + 4 * i) 4 = turnN x 4) → a + 4 * r.length ≤ M → seqM C4 N M n a l = (0, l ++ r, a + 4 * r.length)
  | [], a, l, hn, _, _, _ => by rw [seq_done (by simp at hn; omega)]; simp
  | x :: r, a, l, hn, hx, hp, hM => by
    rw [List.length_cons] at hn hM
    have h16 := hx x (by simp)
    have hg := got4 (N := N) (a := a) (left := M - a) h16 (by have := hp 0 x rfl; simpa using this) (by omega)
    have hn4 : nth C4 x = 4 := by rw [C4_nth x (by omega)]; unfold c4; rw [if_pos h16]
    rw [seq_low (by omega) hg h16, hn4]
    rw [seq4 r (a + 4) (l ++ [x]) (by simp; omega) (fun y hy => hx y (by simp [hy])) (fun i y hy => by
      have := hp (i + 1) y (by simpa using hy)
      rw [show a + 4 + 4 * i = a + 4 * (i + 1) by omega]; exact this) (by omega)]
    simp; omega

/-- The lengths of that code as they are read. -/
theorem cl_at {N b : Nat} {v : Nat → Nat} : ∀ n, (∀ k, k < n → peekN N (b + 3 * k) 3 = v (ord k)) → ∀ j, (∃ k, k < n ∧ ord k = j) → clM N b n j = v j
  | 0, _, j, ⟨k, hk, _⟩ => by omega
  | n + 1, h, j, ⟨k, hk, e⟩ => by
    rw [clM]
    by_cases hj : j = ord n
    · rw [if_pos hj, h n (by omega), hj]
    · rw [if_neg hj]
      exact cl_at n (fun k hk => h k (by omega)) j ⟨k, by
        rcases (show k < n ∨ k = n by omega) with h1 | rfl
        · exact h1
        · exact absurd e.symm hj, e⟩
theorem ord_all : ∀ j, j < 19 → ∃ k, k < 19 ∧ ord k = j := by decide
theorem L_C4 {f : Nat → Int} (h : ∀ j, j < 19 → f j = (c4 j : Int)) : L 19 f = C4 := by
  refine List.ext_getElem? (fun j => ?_)
  by_cases hj : j < 19
  · have e : nth (L 19 f) j = nth C4 j := by rw [L_nth hj, h j hj, Int.toNat_natCast, C4_nth j hj]
    unfold nth at e
    rw [List.getD_eq_getElem?_getD, List.getD_eq_getElem?_getD] at e
    rw [List.getElem?_eq_getElem (by rw [L_length]; exact hj), List.getElem?_eq_getElem (show j < C4.length from hj)] at e ⊢
    simp only [Option.getD_some] at e
    rw [e]
  · rw [List.getElem?_eq_none (by rw [L_length]; omega), List.getElem?_eq_none (by show 19 ≤ j; omega)]
theorem fit_C4 {f : Nat → Int} (h : ∀ j, j < 19 → f j = (c4 j : Int)) : fit 19 f false = 0 := by
  have e := L_C4 h
  have hb : bad 19 f = 0 := bad_ok (by omega) (fun i hi => by rw [h i hi]; unfold c4; split <;> omega)
  have he : err 19 f = 0 := err_ok hb (by rw [e, C4_sum]; omega)
  rw [fit_ok he, e, C4_sum]
  unfold fitR
  rw [if_pos rfl]

/-- What is written of a head where the writer stands at z. -/
def padZ (z : Nat) : Nat := (z + 7) / 8 * 8 - z
def outD (li di : List Nat) : List (Nat × Nat) := [(li.length - 257, 5), (di.length - 1, 5), (15, 4)] ++ ords.map (fun o => (c4 o, 3)) ++ (li ++ di).map (fun x => (turnN x 4, 4))
def outM (h : Hd) (z : Nat) : List (Nat × Nat) :=
  [(h.fin.toNat, 1), (h.kind, 2)] ++ (if h.kind = 0 then [(0, padZ (z + 3)), (h.size, 16), (65535 - h.size, 16)] else if h.kind = 1 then [] else outD h.lits h.dists)
/-- A head as it is read again. -/
def back (h : Hd) : Hd := if h.kind = 0 then ⟨h.fin, 0, h.size, [], []⟩ else if h.kind = 1 then ⟨h.fin, 1, 0, fixL, fixD⟩ else ⟨h.fin, 2, 0, h.lits, h.dists⟩
/-- A head that can be written. -/
structure okH (h : Hd) : Prop where
  k : h.kind ≤ 2
  s : h.kind = 0 → h.size ≤ 65535
  l : h.kind = 2 → 257 ≤ h.lits.length ∧ h.lits.length ≤ 286 ∧ 1 ≤ h.dists.length ∧ h.dists.length ≤ 30 ∧ (∀ x ∈ h.lits ++ h.dists, x < 16) ∧ fitsM h.lits h.dists = 0

theorem bl_map (l : List Nat) (g : Nat → Nat) (m : Nat) : bl (l.map (fun x => (g x, m))) = m * l.length := by
  induction l with
  | nil => simp [bl]
  | cons x r ih => rw [List.map_cons, bl, ih, List.length_cons, Nat.mul_add]; omega
theorem split_map {l : List Nat} {i x : Nat} (g : Nat → Nat) (m : Nat) (h : l[i]? = some x) : ∃ q, l.map (fun x => (g x, m)) = (l.take i).map (fun x => (g x, m)) ++ (g x, m) :: q := by
  have hi := (List.getElem?_eq_some_iff.1 h).1
  refine ⟨(l.drop (i + 1)).map (fun x => (g x, m)), ?_⟩
  have e : l = l.take i ++ x :: l.drop (i + 1) := by
    have : l.drop i = x :: l.drop (i + 1) := by rw [List.drop_eq_getElem_cons hi, (List.getElem?_eq_some_iff.1 h).2]
    rw [← this, List.take_append_drop]
  conv => lhs; rw [e]
  rw [List.map_append, List.map_cons]
theorem peek_map {N z : Nat} {p q : List (Nat × Nat)} {l : List Nat} (g : Nat → Nat) (m : Nat) (h : N / 2 ^ z % 2 ^ bl (p ++ l.map (fun x => (g x, m)) ++ q) = bn (p ++ l.map (fun x => (g x, m)) ++ q)) (hf : fits2 (p ++ l.map (fun x => (g x, m)) ++ q)) {i x : Nat} (hx : l[i]? = some x) :
    peekN N (z + (bl p + m * i)) m = g x := by
  obtain ⟨q2, e⟩ := split_map g m hx
  have hi := (List.getElem?_eq_some_iff.1 hx).1
  have e2 : p ++ l.map (fun x => (g x, m)) ++ q = (p ++ (l.take i).map (fun x => (g x, m))) ++ (g x, m) :: (q2 ++ q) := by rw [e]; simp
  rw [e2] at h hf
  have := peek_in h hf
  rw [bl_append, bl_map, List.length_take, Nat.min_eq_left (by omega)] at this
  exact this
theorem outD_fits {li di : List Nat} (h1 : li.length ≤ 286) (h2 : di.length ≤ 30) : fits2 (outD li di) := by
  intro x hx
  unfold outD at hx
  simp only [List.mem_append, List.mem_cons, List.mem_map, List.not_mem_nil, or_false] at hx
  rcases hx with ((rfl | rfl | rfl) | ⟨o, _, rfl⟩) | ⟨y, _, rfl⟩
  · show li.length - 257 < 2 ^ 5; omega
  · show di.length - 1 < 2 ^ 5; omega
  · decide
  · show c4 o < 2 ^ 3; unfold c4; split <;> omega
  · exact turnN_lt _ _
theorem outM_fits {h : Hd} (ok : okH h) (z : Nat) : fits2 (outM h z) := by
  intro x hx
  unfold outM at hx
  rcases List.mem_append.1 hx with hx | hx
  · simp only [List.mem_cons, List.not_mem_nil, or_false] at hx
    rcases hx with rfl | rfl
    · show h.fin.toNat < 2; cases h.fin <;> decide
    · show h.kind < 4; have := ok.k; omega
  · by_cases h0 : h.kind = 0
    · rw [if_pos h0] at hx
      have := ok.s h0
      simp only [List.mem_cons, List.not_mem_nil, or_false] at hx
      rcases hx with rfl | rfl | rfl
      · exact Nat.two_pow_pos _
      · show h.size < 65536; omega
      · show 65535 - h.size < 65536; omega
    · rw [if_neg h0] at hx
      by_cases h1 : h.kind = 1
      · rw [if_pos h1] at hx; cases hx
      · rw [if_neg h1] at hx
        have := ok.l (by have := ok.k; omega)
        exact outD_fits this.2.1 this.2.2.2.1 x hx
theorem outD_bl (li di : List Nat) : bl (outD li di) = 71 + 4 * (li.length + di.length) := by
  unfold outD
  rw [bl_append, bl_append, bl_map, bl_map, ords_length, List.length_append]
  simp only [bl]
theorem fin_peek (b : Bool) {n : Nat} (h : n = b.toNat) : decide (n = 1) = b := by subst h; cases b <;> rfl

/-- What was written of a head is read. -/
theorem head_back {h : Hd} (ok : okH h) {N M z : Nat} (hN : N / 2 ^ z % 2 ^ bl (outM h z) = bn (outM h z)) (hM : z + bl (outM h z) ≤ M) : headM N M z = (0, back h, z + bl (outM h z)) := by
  have hf := outM_fits ok z
  have hk := ok.k
  -- the first two numbers
  have p1 : peekN N z 1 = h.fin.toNat := peek_in (p := []) hN hf
  have p2 : peekN N (z + 1) 2 = h.kind := peek_in (p := [(h.fin.toNat, 1)]) hN hf
  have b2 : 3 ≤ bl (outM h z) := by unfold outM; rw [bl_append]; simp only [bl]; omega
  rcases (show h.kind = 0 ∨ h.kind = 1 ∨ h.kind = 2 by omega) with h0 | h1 | h2
  · have eo : outM h z = [(h.fin.toNat, 1), (h.kind, 2), (0, padZ (z + 3))] ++ (h.size, 16) :: [(65535 - h.size, 16)] := by unfold outM; rw [if_pos h0]; rfl
    have eo2 : outM h z = [(h.fin.toNat, 1), (h.kind, 2), (0, padZ (z + 3)), (h.size, 16)] ++ (65535 - h.size, 16) :: [] := by unfold outM; rw [if_pos h0]; rfl
    have hs := ok.s h0
    have hpad : z + 3 + padZ (z + 3) = (z + 3 + 7) / 8 * 8 := by unfold padZ; omega
    have p3 : peekN N ((z + 3 + 7) / 8 * 8) 16 = h.size := by
      rw [eo] at hN hf
      have := peek_in hN hf
      rw [← hpad, ← this]; congr 1; simp only [bl]; omega
    have p4 : peekN N ((z + 3 + 7) / 8 * 8 + 16) 16 = 65535 - h.size := by
      rw [eo2] at hN hf
      have := peek_in hN hf
      rw [← hpad, ← this]; congr 1; simp only [bl]; omega
    have hb : z + bl (outM h z) = (z + 3 + 7) / 8 * 8 + 32 := by rw [eo, bl_append, ← hpad]; simp only [bl]; omega
    have hst : stoM N M (z + 3) = (0, h.size, z + bl (outM h z)) := by
      unfold stoM
      rw [if_neg (by omega), p3, p4, if_neg (by omega), hb]
    rw [head_sto (by omega) (by rw [p2, h0]) (by rw [hst]), hst, fin_peek h.fin p1]
    unfold back
    rw [if_pos h0]
  · have eo : outM h z = [(h.fin.toNat, 1), (h.kind, 2)] := by unfold outM; rw [if_neg (by omega), if_pos h1]; rfl
    rw [head_fix (by omega) (by rw [p2, h1]), fin_peek h.fin p1]
    unfold back
    rw [if_neg (by omega), if_pos h1, eo]
    rfl
  · obtain ⟨l1, l2, d1, d2, hx, hfm⟩ := ok.l h2
    have eo : outM h z = [(h.fin.toNat, 1), (h.kind, 2)] ++ outD h.lits h.dists := by unfold outM; rw [if_neg (by omega), if_neg (by omega)]
    have hbl : bl (outM h z) = 74 + 4 * (h.lits.length + h.dists.length) := by rw [eo, bl_append, outD_bl]; simp only [bl]; omega
    have q1 : peekN N (z + 3) 5 = h.lits.length - 257 := by
      rw [eo] at hN hf; exact peek_in (p := [(h.fin.toNat, 1), (h.kind, 2)]) hN hf
    have q2 : peekN N (z + 3 + 5) 5 = h.dists.length - 1 := by
      rw [eo] at hN hf; exact peek_in (p := [(h.fin.toNat, 1), (h.kind, 2), (h.lits.length - 257, 5)]) hN hf
    have q3 : peekN N (z + 3 + 10) 4 = 15 := by
      rw [eo] at hN hf; exact peek_in (p := [(h.fin.toNat, 1), (h.kind, 2), (h.lits.length - 257, 5), (h.dists.length - 1, 5)]) hN hf
    have q4 : ∀ k, k < 19 → peekN N (z + 3 + 14 + 3 * k) 3 = c4 (ord k) := by
      intro k hk19
      have e : outM h z = [(h.fin.toNat, 1), (h.kind, 2), (h.lits.length - 257, 5), (h.dists.length - 1, 5), (15, 4)] ++ ords.map (fun o => (c4 o, 3)) ++ (h.lits ++ h.dists).map (fun x => (turnN x 4, 4)) := by rw [eo]; unfold outD; simp
      rw [e] at hN hf
      have ek : ords[k]? = some (ord k) := by unfold ord nth; rw [List.getD_eq_getElem?_getD, List.getElem?_eq_getElem (show k < ords.length from hk19)]; rfl
      have := peek_map c4 3 hN hf ek
      rw [← this]; congr 1; simp only [bl]; omega
    have q5 : ∀ i x, (h.lits ++ h.dists)[i]? = some x → peekN N (z + 3 + 14 + 57 + 4 * i) 4 = turnN x 4 := by
      intro i x hxi
      have e : outM h z = ([(h.fin.toNat, 1), (h.kind, 2), (h.lits.length - 257, 5), (h.dists.length - 1, 5), (15, 4)] ++ ords.map (fun o => (c4 o, 3))) ++ (h.lits ++ h.dists).map (fun x => (turnN x 4, 4)) ++ [] := by rw [eo]; unfold outD; simp
      rw [e] at hN hf
      have := peek_map (fun x => turnN x 4) 4 hN hf hxi
      rw [← this]; congr 1; rw [bl_append, bl_map, ords_length]; simp only [bl]; omega
    have hcl : ∀ j, j < 19 → clI N (z + 3 + 14) 19 j = (c4 j : Int) := by
      intro j hj
      unfold clI
      rw [cl_at 19 q4 j (ord_all j hj)]
    have hsq : seqM C4 N M (h.lits.length - 257 + 257 + (h.dists.length - 1 + 1)) (z + 3 + 14 + 57) [] = (0, h.lits ++ h.dists, z + bl (outM h z)) := by
      rw [seq4 (h.lits ++ h.dists) (z + 3 + 14 + 57) [] (by rw [List.length_append]; simp; omega) hx q5 (by rw [List.length_append]; omega), hbl, List.length_append]
      simp; omega
    have ht : (h.lits ++ h.dists).take (h.lits.length - 257 + 257) = h.lits := by rw [show h.lits.length - 257 + 257 = h.lits.length by omega, List.take_left]
    have hd : (h.lits ++ h.dists).drop (h.lits.length - 257 + 257) = h.dists := by rw [show h.lits.length - 257 + 257 = h.lits.length by omega, List.drop_left]
    have hdy : dynM N M (z + 3) = (0, (h.lits, h.dists), z + bl (outM h z)) := by
      unfold dynM
      rw [if_neg (by omega), q1, q2, q3, if_neg (by omega), if_neg (by omega)]
      simp only [show 15 + 4 = 19 from rfl, show 3 * 19 = 57 from rfl]
      rw [if_neg (by rw [fit_C4 hcl]; simp), L_C4 hcl, hsq]
      simp only [ht, hd, hfm]
      simp
    rw [head_dyn (by omega) (by rw [p2, h2]) (by rw [hdy]), hdy, fin_peek h.fin p1]
    unfold back
    rw [if_neg (by omega), if_neg (by omega)]
end Go.Proofs.YtgbdecnaamlekaaDoor.Kw
