/-
  How the program makes an automaton of trees (layer 17), in lists: states and edges as they come; the part of a tree takes just what the tree matches.
  How the reference closes a list of states (layer 17): put in their places, again and again until nothing more comes.
  The reference's reader of expressions in memory: is, take, special (layer 17's known() reads two texts with it).
  Conditions: as each theorem says.
-/
import Derived.Test.YthjelilmlbbalaaPaj
import Derived.Test.YthjelilmlbbalaaPai
import Derived.BigQuiet
import Derived.Deep.QuietTactic
import Derived.PlainAid
namespace Go.Proofs.Ythjelilmlbbalaa.Dm
open Go.Proofs.Ythjelilmlbbalaa.Tm Go.Proofs.Ythjelilmlbbalaa.Rm Go.Proofs.Ythjelilmlbbalaa.Rv Go.Proofs.Ythjelilmlbbalaa.Am Go.Proofs.Ythjelilmlbbalaa.An Go.Proofs.Ythjelilmlbbalaa.Af Go.Proofs.Ythjelilmlbbalaa.Ah Go.Proofs.Ythjelilmlbbalaa.Ai Go.Proofs.Ythjelilmlbbalaa.Ap

/-- An edge more. -/
def jn (E : List (List Eg)) (a b : Nat) (f : Bool) (s : List Nat) : List (List Eg) := E.set a (E.getD a [] ++ [⟨(b : Int), f, s⟩])
def fr (E : List (List Eg)) (a b : Nat) : List (List Eg) := jn E a b true zero
/-- What has come: the lists of edges, where a text enters, where it leaves. -/
structure Bd where
  E : List (List Eg)
  i : Nat
  o : Nat
/-- A repeat's copies. -/
def cps (lo : Nat) (hi : Int) : Nat := if hi < 0 then max lo 1 else hi.toNat
/-- A repeat's rounds: k: how many are left; j: how many there were; st, en: the last one's ends. -/
def rpt (f : List (List Eg) → Bd) (lo : Nat) (t0 : Nat) : Nat → Nat → List (List Eg) → Nat → Nat → Bd
  | 0, _, E, st, en => ⟨E, st, en⟩
  | k + 1, j, E, _, en =>
    let E1 := if lo ≤ j then fr E en t0 else E
    let b := f E1
    rpt f lo t0 k (j + 1) (fr b.E en b.i) b.i b.o
/-- A whole repeat. -/
def rep (f : List (List Eg) → Bd) (lo : Nat) (hi : Int) (E : List (List Eg)) : Bd :=
  let n := E.length
  let b := rpt f lo (n + 1) (cps lo hi) 0 (E ++ [[], []]) n n
  let E1 := fr b.E b.o (n + 1)
  ⟨if hi = -1 then fr E1 b.o b.i else E1, n, n + 1⟩
mutual
/-- What comes of a tree. -/
def bT : T → List (List Eg) → Bd
  | .set a, E => ⟨jn (E ++ [[], []]) E.length (E.length + 1) false a, E.length, E.length + 1⟩
  | .emp, E => ⟨jn (E ++ [[], []]) E.length (E.length + 1) true zero, E.length, E.length + 1⟩
  | .cat l, E => bC l E
  | .alt l, E => ⟨bA l E.length (E.length + 1) (E ++ [[], []]), E.length, E.length + 1⟩
  | .star t, E => rep (fun E => bT t E) 0 (-1) E
  | .plus t, E => rep (fun E => bT t E) 1 (-1) E
  | .opt t, E => rep (fun E => bT t E) 0 1 E
  | .rep lo hi t, E => rep (fun E => bT t E) lo hi E
def bC : List T → List (List Eg) → Bd
  | [], E => ⟨E, 0, 0⟩
  | t :: l, E => let b := bT t E
                 let c := bCs l b.E b.o
                 ⟨c.1, b.i, c.2⟩
def bCs : List T → List (List Eg) → Nat → List (List Eg) × Nat
  | [], E, o => (E, o)
  | t :: l, E, o => let b := bT t E
                    bCs l (fr b.E o b.i) b.o
def bA : List T → Nat → Nat → List (List Eg) → List (List Eg)
  | [], _, _, E => E
  | t :: l, i, o, E => let b := bT t E
                       bA l i o (fr (fr b.E i b.i) b.o o)
end
/-- Edges lead to states; the free ones have no bytes. -/
def okS (E : List (List Eg)) : Prop := ∀ l ∈ E, ∀ e ∈ l, (0 ≤ e.to ∧ e.to < (E.length : Int) ∧ (e.free = true → e.s = zero)) ∧ isSet e.s
theorem jn_len (E : List (List Eg)) (a b : Nat) (f : Bool) (s : List Nat) : (jn E a b f s).length = E.length := by unfold jn; simp
theorem fr_len (E : List (List Eg)) (a b : Nat) : (fr E a b).length = E.length := jn_len _ _ _ _ _
theorem two_len (E : List (List Eg)) : (E ++ [[], []]).length = E.length + 2 := by simp
theorem jn_ofE {E : List (List Eg)} {a b : Nat} (ha : a < E.length) (f : Bool) (s : List Nat) : ∀ x y k, ofE (jn E a b f s) x y k ↔ uni (ofE E) (edg a b (if f = true then none else some s)) x y k := ofE_add ha ⟨(b : Int), f, s⟩ rfl
theorem fr_ofE {E : List (List Eg)} {a b : Nat} (ha : a < E.length) : ∀ x y k, ofE (fr E a b) x y k ↔ uni (ofE E) (edg a b none) x y k := jn_ofE ha true zero
theorem two_ofE (E : List (List Eg)) : ∀ x y k, ofE (E ++ [[], []]) x y k ↔ ofE E x y k := fun x y k => by
  have e : E ++ [[], []] = (E ++ [[]]) ++ [[]] := by simp
  rw [e, ofE_state, ofE_state]
theorem okS_two {E : List (List Eg)} (h : okS E) : okS (E ++ [[], []]) := fun l hl e he => by
  rcases List.mem_append.1 hl with hl | hl
  · have := h l hl e he
    rw [two_len]
    exact ⟨⟨this.1.1, by have := this.1.2.1; omega, this.1.2.2⟩, this.2⟩
  · have : l = [] := by simpa using hl
    subst this
    cases he
theorem okS_jn {E : List (List Eg)} (h : okS E) {a b : Nat} (hb : b < E.length) {f : Bool} {s : List Nat} (hf : f = true → s = zero) (hs : isSet s) : okS (jn E a b f s) := fun l hl e he => by
  rw [jn_len]
  unfold jn at hl
  rcases List.mem_or_eq_of_mem_set hl with hl | rfl
  · exact h l hl e he
  · rcases List.mem_append.1 he with he | he
    · by_cases ha : a < E.length
      · rw [List.getD_eq_getElem?_getD, List.getElem?_eq_getElem ha] at he
        exact h _ (List.getElem_mem ha) e he
      · rw [List.getD_eq_getElem?_getD, List.getElem?_eq_none (by omega)] at he
        cases he
    · obtain rfl := List.mem_singleton.1 he
      exact ⟨⟨by show (0 : Int) ≤ (b : Int); omega, by show (b : Int) < _; omega, hf⟩, hs⟩
theorem isSet_zero : isSet zero := ⟨rfl, by decide⟩
theorem okS_fr {E : List (List Eg)} (h : okS E) {a b : Nat} (hb : b < E.length) : okS (fr E a b) := okS_jn h hb (fun _ => rfl) isSet_zero
/-- A part that has been made. -/
structure pt (r : List Nat → Nat → Nat → Prop) (n : Nat) (E : List (List Eg)) (b : Bd) : Prop where
  F : ∃ F, (∀ x y k, ofE b.E x y k ↔ uni (ofE E) F x y k) ∧ prt F E.length b.E.length b.i b.o r ∧ ends F b.i b.o
  ne : b.i ≠ b.o
  len : b.E.length = E.length + n
  q : okS E → okS b.E
theorem pt.bd {r : List Nat → Nat → Nat → Prop} {n : Nat} {E : List (List Eg)} {b : Bd} (h : pt r n E b) : (E.length ≤ b.i ∧ b.i < b.E.length) ∧ E.length ≤ b.o ∧ b.o < b.E.length := by
  obtain ⟨F, _, p, _⟩ := h.F
  exact ⟨⟨p.li, p.ih⟩, p.lo', p.oh⟩
theorem pt.congr {r r' : List Nat → Nat → Nat → Prop} {n : Nat} {E : List (List Eg)} {b : Bd} (h : pt r n E b) (hr : ∀ s p q, r s p q ↔ r' s p q) : pt r' n E b := by
  obtain ⟨F, h1, p, h2⟩ := h.F
  exact ⟨⟨F, h1, p.congr hr, h2⟩, h.ne, h.len, h.q⟩
/-- A set's part. -/
theorem pt_set (a : List Nat) (ha : isSet a) (E : List (List Eg)) : pt (fun s p q => q = p + 1 ∧ ∃ c, s[p]? = some c ∧ has a c = true) 2 E ⟨jn (E ++ [[], []]) E.length (E.length + 1) false a, E.length, E.length + 1⟩ := by
  have h2 := two_len E
  refine ⟨⟨edg E.length (E.length + 1) (some a), fun x y k => ?_, part_set _ _ (by show E.length ≠ _; omega) (by show _ ∧ _ < (jn _ _ _ _ _).length ∧ _ ∧ _ < (jn _ _ _ _ _).length; rw [jn_len]; omega) a, fun x y k h => ?_⟩, by show E.length ≠ E.length + 1; omega, by show (jn _ _ _ _ _).length = _; rw [jn_len, h2], fun h => okS_jn (okS_two h) (by omega) (by simp) ha⟩
  · rw [jn_ofE (by omega)]
    unfold uni
    rw [two_ofE]
    simp
  · obtain ⟨rfl, rfl, _⟩ := h
    show E.length + 1 ≠ E.length ∧ E.length ≠ E.length + 1
    omega
theorem pt_emp (E : List (List Eg)) : pt (fun _ p q => p = q) 2 E ⟨jn (E ++ [[], []]) E.length (E.length + 1) true zero, E.length, E.length + 1⟩ := by
  have h2 := two_len E
  refine ⟨⟨edg E.length (E.length + 1) none, fun x y k => ?_, part_emp _ _ (by show E.length ≠ _; omega) (by show _ ∧ _ < (jn _ _ _ _ _).length ∧ _ ∧ _ < (jn _ _ _ _ _).length; rw [jn_len]; omega), fun x y k h => ?_⟩, by show E.length ≠ E.length + 1; omega, by show (jn _ _ _ _ _).length = _; rw [jn_len, h2], fun h => okS_jn (okS_two h) (by omega) (fun _ => rfl) isSet_zero⟩
  · rw [jn_ofE (by omega)]
    unfold uni
    rw [two_ofE]
    simp
  · obtain ⟨rfl, rfl, _⟩ := h
    show E.length + 1 ≠ E.length ∧ E.length ≠ E.length + 1
    omega
theorem or4 {a b c d : Prop} : ((a ∨ b) ∨ c) ∨ d ↔ a ∨ ((b ∨ c) ∨ d) := by simp only [or_assoc]
theorem or6 {a b c d e f : Prop} : ((((a ∨ b) ∨ c) ∨ d) ∨ e) ∨ f ↔ a ∨ (((b ∨ (c ∨ f)) ∨ d) ∨ e) := by
  constructor
  · rintro (((((h | h) | h) | h) | h) | h) <;> simp [h]
  · rintro (h | (((h | (h | h)) | h) | h)) <;> simp [h]
/-- A part more behind a part. -/
theorem pt_behind {r r2 : List Nat → Nat → Nat → Prop} {n m : Nat} {E : List (List Eg)} {b c : Bd} (h : pt r n E b) (g : pt r2 m b.E c) : pt (fun s p q => ∃ x, r s p x ∧ r2 s x q) (n + m) E ⟨fr c.E b.o c.i, b.i, c.o⟩ := by
  have hb := h.bd
  have gb := g.bd
  obtain ⟨F, h1, p, h2⟩ := h.F
  obtain ⟨G, g1, p2, g2⟩ := g.F
  have hl : (fr c.E b.o c.i).length = c.E.length := fr_len _ _ _
  refine ⟨⟨uni (uni F G) (edg b.o c.i none), fun x y k => ?_, ?_, fun x y k hk => ?_⟩, by show b.i ≠ c.o; omega, by show (fr _ _ _).length = _; rw [hl, g.len, h.len]; omega, fun q => okS_fr (g.q (h.q q)) gb.1.2⟩
  · exact (fr_ofE (by omega) x y k).trans ((or_congr ((g1 x y k).trans (or_congr (h1 x y k) Iff.rfl)) Iff.rfl).trans or4)
  · exact part_cat p p2 (.inl (Nat.le_refl _)) ⟨Nat.le_refl _, by omega⟩ ⟨by show _ ≤ (fr _ _ _).length; omega, by show _ ≤ (fr _ _ _).length; omega⟩
  · show y ≠ b.i ∧ x ≠ c.o
    rcases hk with (hk | hk) | ⟨rfl, rfl, _⟩
    · have := h2 x y k hk; have := p.e x y k hk; omega
    · have := g2 x y k hk; have := p2.e x y k hk; omega
    · omega
mutual
/-- How many states a tree makes. -/
def szU : T → Nat
  | .set _ => 2
  | .emp => 2
  | .cat l => szUs l
  | .alt l => 2 + szUs l
  | .star t => 2 + szU t
  | .plus t => 2 + szU t
  | .opt t => 2 + szU t
  | .rep lo hi t => 2 + cps lo hi * szU t
def szUs : List T → Nat
  | [] => 0
  | t :: l => szU t + szUs l
end
/-- A part more side by side. -/
theorem pt_beside {r r2 : List Nat → Nat → Nat → Prop} {n m : Nat} {E E1 : List (List Eg)} {i o : Nat} {b : Bd} (h : pt r n E ⟨E1, i, o⟩) (g : pt r2 m E1 b) : pt (fun s p q => r s p q ∨ r2 s p q) (n + m) E ⟨fr (fr b.E i b.i) b.o o, i, o⟩ := by
  have hb := h.bd
  have gb := g.bd
  have hlen := h.len
  have glen := g.len
  have hne := h.ne
  simp only at hb hlen hne
  obtain ⟨F, h1, p, h2⟩ := h.F
  obtain ⟨G, g1, p2, g2⟩ := g.F
  simp only at h1 p h2
  have hl : (fr (fr b.E i b.i) b.o o).length = b.E.length := by rw [fr_len, fr_len]
  obtain ⟨q1, q2⟩ := part_alt (lo := E.length) (hi := b.E.length) p h2 hne p2 (.inl (Nat.le_refl _)) ⟨Nat.le_refl _, by omega⟩ ⟨by omega, Nat.le_refl _⟩
  refine ⟨⟨uni (uni F G) (uni (edg i b.i none) (edg b.o o none)), fun x y k => ?_, by show prt _ _ (fr _ _ _).length _ _ _; rw [hl]; exact q1, q2⟩, hne, by show (fr _ _ _).length = _; rw [hl]; omega, fun q => okS_fr (okS_fr (g.q (h.q q)) gb.1.2) (by rw [fr_len]; omega)⟩
  exact (fr_ofE (by rw [fr_len]; omega) x y k).trans ((or_congr ((fr_ofE (by omega) x y k).trans (or_congr ((g1 x y k).trans (or_congr (h1 x y k) Iff.rfl)) Iff.rfl)) Iff.rfl).trans (by simp only [or_assoc, uni]))
/-- A repeat on its way: what has come of so many copies. -/
structure chs (r : List Nat → Nat → Nat → Prop) (n : Nat) (lo : Nat) (E0 : List (List Eg)) (j : Nat) (E : List (List Eg)) (en : Nat) : Prop where
  F : ∃ F, (∀ x y k, ofE E x y k ↔ uni (ofE E0) F x y k) ∧ chn F E0.length E.length E0.length en (E0.length + 1) (fun s p q => IT (r s) j p q) (fun s p q => ∃ i, lo ≤ i ∧ i < j ∧ IT (r s) i p q)
  len : E.length = E0.length + 2 + j * n
  q : okS E0 → okS E
theorem chs_start (r : List Nat → Nat → Nat → Prop) (n lo : Nat) (E0 : List (List Eg)) : chs r n lo E0 0 (E0 ++ [[], []]) E0.length := by
  have h2 := two_len E0
  refine ⟨⟨_, fun x y k => ?_, { chn_start (lo := E0.length) (hi := (E0 ++ [[], []]).length) (i := E0.length) (o := E0.length + 1) (by omega) ⟨by omega, by omega, by omega, by omega⟩ with ml := ?_, mo := ?_ }⟩, by omega, okS_two⟩
  · rw [two_ofE]
    unfold uni
    exact ⟨.inl, fun h => h.elim id False.elim⟩
  · exact fun s p q => (chn_start (lo := E0.length) (hi := (E0 ++ [[], []]).length) (i := E0.length) (o := E0.length + 1) (by omega) ⟨by omega, by omega, by omega, by omega⟩).ml s p q
  · intro s p q
    rw [(chn_start (lo := E0.length) (hi := (E0 ++ [[], []]).length) (i := E0.length) (o := E0.length + 1) (by omega) ⟨by omega, by omega, by omega, by omega⟩).mo s p q]
    exact ⟨False.elim, fun ⟨i, _, h, _⟩ => absurd h (by omega)⟩
/-- With a way out. -/
structure cho (r : List Nat → Nat → Nat → Prop) (n : Nat) (lo : Nat) (E0 : List (List Eg)) (j : Nat) (E : List (List Eg)) (en : Nat) : Prop where
  F : ∃ F, (∀ x y k, ofE E x y k ↔ uni (ofE E0) F x y k) ∧ chn F E0.length E.length E0.length en (E0.length + 1) (fun s p q => IT (r s) j p q) (fun s p q => ∃ i, lo ≤ i ∧ i < j + 1 ∧ IT (r s) i p q)
  len : E.length = E0.length + 2 + j * n
  q : okS E0 → okS E
theorem chs_skip {r : List Nat → Nat → Nat → Prop} {n lo : Nat} {E0 E : List (List Eg)} {j en : Nat} (h : chs r n lo E0 j E en) : cho r n lo E0 j (if lo ≤ j then fr E en (E0.length + 1) else E) en := by
  obtain ⟨F, h1, c⟩ := h.F
  have c3 := c.l2
  have hlen := h.len
  split
  · next hj =>
    refine ⟨⟨_, fun x y k => (fr_ofE c3 x y k).trans ((or_congr (h1 x y k) Iff.rfl).trans or_assoc), by
      rw [fr_len]
      refine { chn_skip c with ml := (chn_skip c).ml, mo := fun s p q => ((chn_skip c).mo s p q).trans ?_ }
      constructor
      · rintro (⟨i, a, b, d⟩ | d)
        · exact ⟨i, a, by omega, d⟩
        · exact ⟨j, hj, by omega, d⟩
      · rintro ⟨i, a, b, d⟩
        rcases (show i < j ∨ i = j by omega) with k | rfl
        · exact .inl ⟨i, a, k, d⟩
        · exact .inr d⟩, by rw [fr_len]; exact hlen, fun q => okS_fr (h.q q) (by omega)⟩
  · next hj =>
    refine ⟨⟨F, h1, { c with mo := fun s p q => (c.mo s p q).trans ?_ }⟩, hlen, h.q⟩
    constructor
    · rintro ⟨i, a, b, d⟩
      exact ⟨i, a, by omega, d⟩
    · rintro ⟨i, a, b, d⟩
      exact ⟨i, a, by omega, d⟩
/-- A copy more. -/
theorem cho_copy {r : List Nat → Nat → Nat → Prop} {n lo : Nat} {E0 E : List (List Eg)} {j en : Nat} (h : cho r n lo E0 j E en) {b : Bd} (g : pt r n E b) : chs r n lo E0 (j + 1) (fr b.E en b.i) b.o := by
  obtain ⟨F, h1, c⟩ := h.F
  obtain ⟨G, g1, p, g2⟩ := g.F
  have c3 := c.l2
  have hlen := h.len
  have glen := g.len
  have gb := g.bd
  have k := chn_copy (lo := E0.length) (hi := b.E.length) c p (.inl (Nat.le_refl _)) ⟨Nat.le_refl _, by omega⟩ ⟨by omega, Nat.le_refl _⟩
  refine ⟨⟨_, fun x y l => (fr_ofE (by omega) x y l).trans ((or_congr ((g1 x y l).trans (or_congr (h1 x y l) Iff.rfl)) Iff.rfl).trans or4), by
    rw [fr_len]
    exact { k with ml := fun s p q => (k.ml s p q).trans IT.snoc.symm, mo := k.mo }⟩, by rw [fr_len, glen, hlen, Nat.succ_mul]; omega, fun q => okS_fr (g.q (h.q q)) gb.1.2⟩
/-- Behind the last copy: the way so far, and the copy. -/
structure lst (r : List Nat → Nat → Nat → Prop) (n : Nat) (lo : Nat) (E0 : List (List Eg)) (j : Nat) (b : Bd) : Prop where
  F : ∃ E en c, cho r n lo E0 j E en ∧ pt r n E c ∧ b = ⟨fr c.E en c.i, c.i, c.o⟩
theorem rpt_last {r : List Nat → Nat → Nat → Prop} {n lo : Nat} {f : List (List Eg) → Bd} (hf : ∀ E, pt r n E (f E)) {E0 : List (List Eg)} : ∀ (k j : Nat) (E : List (List Eg)) (st en : Nat), chs r n lo E0 j E en → lst r n lo E0 (j + k) (rpt f lo (E0.length + 1) (k + 1) j E st en)
  | 0, j, E, st, en, h => by
    simp only [rpt]
    exact ⟨_, _, _, chs_skip h, hf _, rfl⟩
  | k + 1, j, E, st, en, h => by
    rw [rpt]
    have := rpt_last hf k (j + 1) _ ((f (if lo ≤ j then fr E en (E0.length + 1) else E)).i) _ (cho_copy (chs_skip h) (hf _))
    rw [show j + 1 + k = j + (k + 1) by omega] at this
    exact this
/-- What a repeat matches. -/
def itr (r : List Nat → Nat → Nat → Prop) (lo : Nat) (hi : Int) (s : List Nat) (p q : Nat) : Prop := ∃ k, lo ≤ k ∧ (hi < 0 ∨ (k : Int) ≤ hi) ∧ IT (r s) k p q
theorem pt_rep {r : List Nat → Nat → Nat → Prop} {n lo : Nat} {hi : Int} (hh : hi = -1 ∨ (lo : Int) ≤ hi) {f : List (List Eg) → Bd} (hf : ∀ E, pt r n E (f E)) (E : List (List Eg)) : pt (itr r lo hi) (2 + cps lo hi * n) E (rep f lo hi E) := by
  have hst := chs_start r n lo E
  rcases Nat.eq_zero_or_pos (cps lo hi) with h0 | h0
  · have hn : hi ≠ -1 := by rintro rfl; unfold cps at h0; rw [if_pos (by omega)] at h0; omega
    have h00 : ¬ hi < 0 := by omega
    have hhi : hi = 0 := by unfold cps at h0; rw [if_neg h00] at h0; omega
    subst hhi
    have hl0 : lo = 0 := by omega
    subst hl0
    have k := chs_skip hst
    rw [if_pos (Nat.le_refl 0)] at k
    obtain ⟨F, k1, c⟩ := k.F
    have e : rep f 0 0 E = ⟨fr (E ++ [[], []]) E.length (E.length + 1), E.length, E.length + 1⟩ := by
      unfold rep
      rw [h0]
      simp only [rpt]
      rfl
    rw [e]
    refine ⟨⟨F, k1, c.prt.congr (fun s p q => ?_), c.n⟩, c.io, by rw [h0]; have := k.len; simp only at this ⊢; omega, k.q⟩
    unfold itr
    constructor
    · rintro ⟨i, a, b, d⟩
      exact ⟨i, a, .inr (by omega), d⟩
    · rintro ⟨i, a, b, d⟩
      exact ⟨i, a, by omega, d⟩
  · obtain ⟨m, hm⟩ : ∃ m, cps lo hi = m + 1 := ⟨cps lo hi - 1, by omega⟩
    have L := rpt_last hf m 0 _ E.length E.length hst
    rw [Nat.zero_add] at L
    obtain ⟨E1, en, c, hc, hp, hb⟩ := L.F
    have e : rep f lo hi E = ⟨if hi = -1 then fr (fr (fr c.E en c.i) c.o (E.length + 1)) c.o c.i else fr (fr c.E en c.i) c.o (E.length + 1), E.length, E.length + 1⟩ := by
      unfold rep
      dsimp only
      rw [hm, hb]
    rw [e, hm]
    by_cases hn : hi = -1
    · subst hn
      rw [if_pos rfl]
      obtain ⟨F, h1, ch⟩ := hc.F
      obtain ⟨G, g1, p, g2⟩ := hp.F
      have c3 := ch.l2
      have hlen := hc.len
      have glen := hp.len
      have gb := hp.bd
      have k := chn_copy (lo := E.length) (hi := c.E.length) ch (part_plus p) (.inl (Nat.le_refl _)) ⟨Nat.le_refl _, by omega⟩ ⟨by omega, Nat.le_refl _⟩
      have k2 := chn_skip k
      have hl : (fr (fr (fr c.E en c.i) c.o (E.length + 1)) c.o c.i).length = c.E.length := by rw [fr_len, fr_len, fr_len]
      have hE2 : E.length + 1 < c.E.length := by omega
      have hm2 : ∀ s p q, ((∃ i, lo ≤ i ∧ i < m + 1 ∧ IT (r s) i p q) ∨ ∃ x, IT (r s) m p x ∧ ∃ y, RT (r s) x y ∧ r s y q) ↔ itr r lo (-1) s p q := fun s p q => by
        unfold itr
        have hmc : m + 1 = max lo 1 := by rw [← hm]; unfold cps; rw [if_pos (by omega)]
        constructor
        · rintro (⟨i, a, b, d⟩ | ⟨x, d, y, d2, d3⟩)
          · exact ⟨i, a, .inl (by omega), d⟩
          · obtain ⟨z, hz⟩ := RT.iter.1 d2
            exact ⟨m + (z + 1), by omega, .inl (by omega), IT.add.2 ⟨x, d, IT.snoc.2 ⟨y, hz, d3⟩⟩⟩
        · rintro ⟨i, a, _, d⟩
          rcases Nat.lt_or_ge i (m + 1) with hi | hi
          · exact .inl ⟨i, a, hi, d⟩
          · obtain ⟨z, rfl⟩ : ∃ z, i = m + (z + 1) := ⟨i - m - 1, by omega⟩
            obtain ⟨x, d1, d2⟩ := IT.add.1 d
            obtain ⟨y, d3, d4⟩ := IT.snoc.1 d2
            exact .inr ⟨x, d1, y, RT.iter.2 ⟨z, d3⟩, d4⟩
      refine ⟨⟨_, fun x y l => ?_, by show prt _ _ (fr _ _ _).length _ _ _; rw [hl]; exact k2.prt.congr hm2, k2.n⟩, k2.io, by show (fr _ _ _).length = _; rw [hl, glen, hlen, Nat.succ_mul]; omega, fun q => okS_fr (okS_fr (okS_fr (hp.q (hc.q q)) gb.1.2) (by rw [fr_len]; omega)) (by rw [fr_len, fr_len]; omega)⟩
      · refine (fr_ofE (by rw [fr_len, fr_len]; omega) x y l).trans ((or_congr ((fr_ofE (by rw [fr_len]; omega) x y l).trans (or_congr ((fr_ofE (by omega) x y l).trans (or_congr ((g1 x y l).trans (or_congr (h1 x y l) Iff.rfl)) Iff.rfl)) Iff.rfl)) Iff.rfl).trans ?_)
        exact or6
    · rw [if_neg hn]
      have h00 : ¬ hi < 0 := by omega
      have hmc : (m : Int) + 1 = hi := by unfold cps at hm; rw [if_neg h00] at hm; omega
      have k := chs_skip (cho_copy hc hp)
      rw [if_pos (by omega)] at k
      obtain ⟨F, k1, ch⟩ := k.F
      refine ⟨⟨F, k1, ch.prt.congr (fun s p q => ?_), ch.n⟩, ch.io, by have := k.len; simp only at this ⊢; omega, k.q⟩
      unfold itr
      constructor
      · rintro ⟨i, a, b, d⟩
        exact ⟨i, a, .inr (by omega), d⟩
      · rintro ⟨i, a, b, d⟩
        exact ⟨i, a, by omega, d⟩
end Go.Proofs.Ythjelilmlbbalaa.Dm
namespace Go.Proofs.Ythjelilmlbbalaa.Ac
open Go.Proofs.Ythjelilmlbbalaa.Tm Go.Proofs.Ythjelilmlbbalaa.Rm Go.Proofs.Ythjelilmlbbalaa.Am Go.Proofs.Ythjelilmlbbalaa.An

/-- Of two ascending lists the one that has less is no longer; as long, the same. -/
theorem asc_sub : ∀ {b a : List Int}, asc a → asc b → (∀ x ∈ a, x ∈ b) → a.length ≤ b.length ∧ (a.length = b.length → a = b)
  | [], [], _, _, _ => ⟨Nat.le_refl _, fun _ => rfl⟩
  | [], x :: a, _, _, h => absurd (h x (by simp)) (by simp)
  | y :: b, [], _, _, _ => ⟨by simp, fun e => by simp at e⟩
  | y :: b, x :: a, ha, hb, h => by
    unfold asc at ha hb
    by_cases e : x = y
    · subst e
      obtain ⟨h1, h2⟩ := asc_sub ha.2 hb.2 (fun z hz => by
        have := ha.1 z hz
        rcases List.mem_cons.1 (h z (List.mem_cons_of_mem _ hz)) with e | k
        · omega
        · exact k)
      exact ⟨by simp only [List.length_cons]; omega, fun k => by rw [h2 (by simpa using k)]⟩
    · have hx : x ∈ b := by
        rcases List.mem_cons.1 (h x (by simp)) with k | k
        · exact absurd k e
        · exact k
      have hy := hb.1 x hx
      obtain ⟨h1, _⟩ := asc_sub (b := b) (a := x :: a) (by unfold asc; exact ha) hb.2 (fun z hz => by
        rcases List.mem_cons.1 (h z hz) with k | k
        · rcases List.mem_cons.1 hz with k' | k'
          · omega
          · have := ha.1 z k'; omega
        · exact k)
      simp only [List.length_cons] at h1 ⊢
      exact ⟨by omega, fun k => by omega⟩
/-- A list tells a set of numbers. -/
structure isL (L : List Int) (P : Nat → Prop) : Prop where
  a : asc L
  m : ∀ x, x ∈ L ↔ ∃ q : Nat, x = (q : Int) ∧ P q
theorem isL.ext {L L' : List Int} {P Q : Nat → Prop} (h : isL L P) (k : isL L' Q) (e : ∀ q, P q ↔ Q q) : L = L' :=
  asc_ext h.a k.a (fun x => by rw [h.m, k.m]; exact ⟨fun ⟨q, a, b⟩ => ⟨q, a, (e q).1 b⟩, fun ⟨q, a, b⟩ => ⟨q, a, (e q).2 b⟩⟩)
theorem isL.congr {L : List Int} {P Q : Nat → Prop} (h : isL L P) (e : ∀ q, P q ↔ Q q) : isL L Q := ⟨h.a, fun x => (h.m x).trans ⟨fun ⟨q, a, b⟩ => ⟨q, a, (e q).1 b⟩, fun ⟨q, a, b⟩ => ⟨q, a, (e q).2 b⟩⟩⟩
theorem isL_nil : isL [] (fun _ => False) := ⟨by unfold asc; trivial, fun x => by simp⟩
theorem isL.put {L : List Int} {P : Nat → Prop} (h : isL L P) (n : Nat) : isL (putQ L n) (fun q => q = n ∨ P q) := ⟨putQ_asc h.a, fun x => by
  rw [putQ_mem, h.m]
  constructor
  · rintro (e | ⟨q, a, b⟩)
    · exact ⟨n, e, .inl rfl⟩
    · exact ⟨q, a, .inr b⟩
  · rintro ⟨q, a, b | b⟩
    · exact .inl (by rw [a, b])
    · exact .inr ⟨q, a, b⟩⟩
theorem isL.mem {L : List Int} {P : Nat → Prop} (h : isL L P) (q : Nat) : (q : Int) ∈ L ↔ P q := by
  rw [h.m]
  constructor
  · rintro ⟨q', e, k⟩
    obtain rfl : q = q' := by omega
    exact k
  · intro k
    exact ⟨q, rfl, k⟩
/-- A bound on how many. -/
theorem isL.len {L : List Int} {P : Nat → Prop} (h : isL L P) {n : Nat} (hn : ∀ q, P q → q < n) : L.length ≤ n := by
  have := asc_len (lo := 0) (hi := (n : Int)) h.a (fun x hx => by obtain ⟨q, rfl, hq⟩ := (h.m x).1 hx; have := hn q hq; omega) (by omega)
  omega
section
variable {E : List (List Eg)}
/-- What a pass adds: where free edges lead, of the first so many of some states, and of the next one's first so many edges. -/
def pas (E : List (List Eg)) (now : List Int) (i j : Nat) (q : Nat) : Prop :=
  (∃ a, a < i ∧ ∃ p : Nat, now[a]? = some (p : Int) ∧ fre E p q) ∨ (∃ p : Nat, now[i]? = some (p : Int) ∧ ∃ l e, E[p]? = some l ∧ ∃ b, b < j ∧ l[b]? = some e ∧ e.free = true ∧ e.to = (q : Int))
theorem pas_zero {now : List Int} {q : Nat} : ¬ pas E now 0 0 q := by
  rintro (⟨a, h, _⟩ | ⟨p, _, l, e, _, b, h, _⟩)
  · omega
  · omega
theorem pas_edge {now : List Int} {i j p q : Nat} {l : List Eg} {e : Eg} (hp : now[i]? = some (p : Int)) (hl : E[p]? = some l) (he : l[j]? = some e) : pas E now i (j + 1) q ↔ pas E now i j q ∨ (e.free = true ∧ e.to = (q : Int)) := by
  unfold pas
  constructor
  · rintro (h | ⟨p', hp', l', e', hl', b, hb, he', hf, ht⟩)
    · exact .inl (.inl h)
    · rcases (show b < j ∨ b = j by omega) with h | rfl
      · exact .inl (.inr ⟨p', hp', l', e', hl', b, h, he', hf, ht⟩)
      · rw [hp] at hp'
        obtain rfl : p = p' := by have := Option.some.inj hp'; omega
        rw [hl] at hl'
        obtain rfl := Option.some.inj hl'
        rw [he] at he'
        obtain rfl := Option.some.inj he'
        exact .inr ⟨hf, ht⟩
  · rintro ((h | ⟨p', hp', l', e', hl', b, hb, he', hf, ht⟩) | ⟨hf, ht⟩)
    · exact .inl h
    · exact .inr ⟨p', hp', l', e', hl', b, by omega, he', hf, ht⟩
    · exact .inr ⟨p, hp, l, e, hl, j, by omega, he, hf, ht⟩
theorem pas_next {now : List Int} {i p q : Nat} {l : List Eg} (hp : now[i]? = some (p : Int)) (hl : E[p]? = some l) : pas E now (i + 1) 0 q ↔ pas E now i l.length q := by
  unfold pas
  constructor
  · rintro (⟨a, ha, p', hp', hf⟩ | ⟨_, _, _, _, _, b, hb, _⟩)
    · rcases (show a < i ∨ a = i by omega) with h | rfl
      · exact .inl ⟨a, h, p', hp', hf⟩
      · obtain ⟨l', e, hl', he, h1, h2⟩ := hf
        obtain ⟨b, hb⟩ := List.mem_iff_getElem?.1 he
        exact .inr ⟨p', hp', l', e, hl', b, by
          rw [hp] at hp'
          obtain rfl : p = p' := by have := Option.some.inj hp'; omega
          rw [hl] at hl'
          obtain rfl := Option.some.inj hl'
          exact (List.getElem?_eq_some_iff.1 hb).1, hb, h1, h2⟩
    · omega
  · rintro (⟨a, ha, h⟩ | ⟨p', hp', l', e, hl', b, hb, he, h1, h2⟩)
    · exact .inl ⟨a, by omega, h⟩
    · exact .inl ⟨i, by omega, p', hp', l', e, hl', List.mem_of_getElem? he, h1, h2⟩
theorem pas_all {now : List Int} {q : Nat} {P : Nat → Prop} (h : isL now P) : pas E now now.length 0 q ↔ ∃ p, P p ∧ fre E p q := by
  unfold pas
  constructor
  · rintro (⟨a, _, p, hp, hf⟩ | ⟨_, _, _, _, _, b, hb, _⟩)
    · exact ⟨p, (h.mem p).1 (List.mem_of_getElem? hp), hf⟩
    · omega
  · rintro ⟨p, hp, hf⟩
    obtain ⟨a, ha⟩ := List.mem_iff_getElem?.1 ((h.mem p).2 hp)
    exact .inl ⟨a, (List.getElem?_eq_some_iff.1 ha).1, p, ha, hf⟩
/-- Nothing more comes: that is all. -/
theorem closed {S P Q : Nat → Prop} {now out : List Int} (h : isL now P) (k : isL out Q) (hQ : ∀ q, Q q ↔ P q ∨ ∃ p, P p ∧ fre E p q) (hlen : out.length = now.length) (hS : ∀ q, S q → q < E.length → P q) (hP : ∀ q, P q → clo E S q) : ∀ q, Q q ↔ clo E S q := by
  have e : now = out := (asc_sub h.a k.a (fun x hx => by obtain ⟨q, rfl, hq⟩ := (h.m x).1 hx; exact (k.mem q).2 ((hQ q).2 (.inl hq)))).2 hlen.symm
  have hPQ : ∀ q, P q ↔ Q q := fun q => by rw [← h.mem q, e, k.mem q]
  have hcl : ∀ p q, P p → RT (fre E) p q → P q := fun p q hp hr => by
    induction hr with
    | refl => exact hp
    | step h1 _ ih => exact ih ((hPQ _).2 ((hQ _).2 (.inr ⟨_, hp, h1⟩)))
  intro q
  rw [← hPQ q]
  exact ⟨hP q, fun ⟨p, h1, h2, h3⟩ => hcl p q (hS p h1 h2) h3⟩
theorem clo_step {S : Nat → Prop} {p q : Nat} (h : clo E S p) (k : fre E p q) : clo E S q := by
  obtain ⟨a, h1, h2, h3⟩ := h
  exact ⟨a, h1, h2, h3.trans (.one k)⟩
theorem clo_of {S : Nat → Prop} {q : Nat} (h : S q) (hq : q < E.length) : clo E S q := ⟨q, h, hq, .refl q⟩
theorem clo_lt {S : Nat → Prop} (hE : ∀ p q, fre E p q → q < E.length) {q : Nat} (h : clo E S q) : q < E.length := by
  obtain ⟨a, h1, h2, h3⟩ := h
  clear h1
  induction h3 with
  | refl => exact h2
  | step h1 _ ih => exact ih (hE _ _ h1)
end
theorem okA.free {A : Au} (h : okA A) : ∀ p q, fre A.E p q → q < A.E.length := fun p q ⟨l, e, h1, h2, _, h4⟩ => by
  have := h.e l (List.mem_of_getElem? h1) e h2
  omega
theorem okA.byte {A : Au} (h : okA A) : ∀ c p q, byE A.E c p q → q < A.E.length := fun c p q ⟨l, e, h1, h2, _, _, h4⟩ => by
  have := h.e l (List.mem_of_getElem? h1) e h2
  omega
end Go.Proofs.Ythjelilmlbbalaa.Ac
namespace Go.Proofs.Ythjelilmlbbalaa.Aq
open Go.RowKit Go.PlainAid Go.Proofs.Ythjelilmlbbalaa.Vm Go.Proofs.Ythjelilmlbbalaa.Vo Go.Proofs.Ythjelilmlbbalaa.Bw Go.Proofs.Ythjelilmlbbalaa.Na Go.Proofs.Ythjelilmlbbalaa.Tm Go.Proofs.Ythjelilmlbbalaa.Ta Go.Proofs.Ythjelilmlbbalaa.Tb Go.Proofs.Ythjelilmlbbalaa.Tf Go.Proofs.Ythjelilmlbbalaa.Rm Go.Proofs.Ythjelilmlbbalaa.Ra

/-- A reader of the reference's in memory, in which nothing is wrong. -/
def rpar (w : World) (g : Nat) (s : ByteArray) (a : Nat) : Prop := Blk w g 83 #[.string s, .int .i64 (a : Int), .int .i64 0, .int .i64 0]
section
variable {w w' : World} {g : Nat} {s : ByteArray} {a : Nat}
theorem rpar.c0 (h : rpar w g s a) : w.cell? ⟨g, 0, none⟩ = some (.string s) := h.cell 0
theorem rpar.c1 (h : rpar w g s a) : w.cell? ⟨g, 1, none⟩ = some (.int .i64 (a : Int)) := h.cell 1
theorem rpar.c2 (h : rpar w g s a) : w.cell? ⟨g, 2, none⟩ = some (.int .i64 0) := h.cell 2
theorem rpar.c3 (h : rpar w g s a) : w.cell? ⟨g, 3, none⟩ = some (.int .i64 0) := h.cell 3
theorem rpar.lt (h : rpar w g s a) : g < w.heap.size := Blk.lt h
theorem rpar.draws (h : rpar w g s a) (n : Nat) : rpar (w.drewN n) g s a := h
theorem rpar.below (h : rpar w g s a) (k : Below w.heap.size w w') : rpar w' g s a := Blk.below h k
theorem rpar.goes (h : rpar w g s a) (b : Nat) : rpar (w.setCell ⟨g, 1, none⟩ (.int .i64 (b : Int))) g s b := Blk.store h 1 _
end
/-- Is the next byte this one? -/
def isQ (s : ByteArray) (a : Nat) (c : Int) : Bool := decide (a < s.size) && (bt s a == c)
set_option maxHeartbeats 1000000 in
set_option maxRecDepth 100000 in
theorem ris_any {g : Nat} {s : ByteArray} {a : Nat} (c : Int) {w : World} (H : Hid (rpar w g s a)) :
    Calls Try.prog 75 #[.pointer (some ⟨g, 0, none⟩), .int .u8 c] w fun e w' => e = .returned (.bool (isQ s a c)) ∧ ∃ n, w' = w.drewN n := by
  have c0 := H.out.c0
  have c1 := H.out.c1
  have c2 := H.out.c2
  have hb := get_bt s
  by_cases h : a < s.size
  · have hR : isQ s a c = (bt s a == c) := by unfold isQ; rw [decide_eq_true h, Bool.true_and]
    rw [hR]
    have h1 : (a : Int) < (s.size : Int) := by omega
    have h0 : (0 : Int) ≤ (a : Int) := by omega
    generalize hz : bt s a = z at *
    go_enter Try.func75, Try.ntmps75
    go_wp2
    go_quiet (fail)
    go_wp2
    go_ret
    exact ⟨rfl, ⟨_, rfl⟩⟩
  · have hR : isQ s a c = false := by unfold isQ; rw [decide_eq_false h, Bool.false_and]
    rw [hR]
    have h1 : ¬ (a : Int) < (s.size : Int) := by omega
    go_enter Try.func75, Try.ntmps75
    go_wp2
    go_quiet (fail)
    go_wp2
    go_ret
    exact ⟨rfl, ⟨_, rfl⟩⟩
set_option maxHeartbeats 1000000 in
set_option maxRecDepth 100000 in
theorem rtake_no {g : Nat} {s : ByteArray} {a : Nat} {c : Int} (h : isQ s a c = false) {w : World} (H : Hid (rpar w g s a)) :
    Calls Try.prog 61 #[.pointer (some ⟨g, 0, none⟩), .int .u8 c] w fun e w' => e = .returned (.bool false) ∧ ∃ n, w' = w.drewN n := by
  have HN := Lib.hid (ris_any c H)
  rw [h] at HN
  go_enter Try.func61, Try.ntmps61
  go_wp2_with (go_at_call 75; refine HN.out.mono ?_; rintro e w1 ⟨rfl, n, rfl⟩)
  go_ret
  exact ⟨rfl, _, rfl⟩
set_option maxHeartbeats 1000000 in
set_option maxRecDepth 100000 in
theorem rtake_yes {g : Nat} {s : ByteArray} {a : Nat} {c : Int} (hs : s.size ≤ 1000000) (h : isQ s a c = true) {w : World} (H : Hid (rpar w g s a)) :
    Calls Try.prog 61 #[.pointer (some ⟨g, 0, none⟩), .int .u8 c] w fun e w' => e = .returned (.bool true) ∧ rpar w' g s (a + 1) ∧ Only (· = g) w w' := by
  have HN := Lib.hid (ris_any c H)
  rw [h] at HN
  have ha : a < s.size := by
    unfold isQ at h
    simp only [Bool.and_eq_true, decide_eq_true_eq] at h
    exact h.1
  clear h
  have HC1 := Lib.hid H.out.c1
  have HF := Lib.hid (H.out.frozen 1)
  have h1 : (a : Int) ≤ 1000000 := by omega
  clear ha hs
  go_enter Try.func61, Try.ntmps61
  go_wp2_with (go_at_call 75; refine HN.out.mono ?_; rintro e w1 ⟨rfl, n, rfl⟩; have d1 : (w.drewN n).cell? ⟨g, 1, none⟩ = some (.int .i64 (a : Int)) := HC1.out; have f1 : (w.drewN n).frozen? ⟨g, 1, none⟩ = false := HF.out)
  go_ret
  refine ⟨rfl, ?_, ?_⟩
  · have := (H.out.draws n).goes (a + 1)
    simpa using this
  · exact ((Only.refl (· = g) w).draws n).store (p := ⟨g, 1, none⟩) (.inl rfl) _
/-- The bytes that do not stand for themselves. -/
def spS : ByteArray := ⟨#[92, 91, 93, 40, 41, 123, 125, 42, 43, 63, 124, 46]⟩
set_option maxHeartbeats 1000000 in
set_option maxRecDepth 100000 in
theorem rspecial_no {c : Int} (hc : ∀ k < 12, (bt spS k == c) = false) (w : World) :
    Calls Try.prog 103 #[.int .u8 c] w fun e w' => e = .returned (.bool false) ∧ w = w' := by
  have HC := Lib.hid hc
  clear hc
  have hs : spS.size = 12 := by decide
  have hb := get_bt spS
  go_enter Try.func103, Try.ntmps103
  rw [show (⟨#[92, 91, 93, 40, 41, 123, 125, 42, 43, 63, 124, 46]⟩ : ByteArray) = spS from rfl]
  generalize spS = S at *
  go_wp2
  go_loopw [4] (fun i wr => ∃ k : Nat, i = .int .i64 k ∧ k ≤ 12 ∧ Hid (w = wr)) (fun i _ => 12 - (intOf i).toNat)
  case atStart => exact ⟨0, rfl, by omega, Lib.hid rfl⟩
  case round =>
    obtain ⟨k, rfl, hk, HW⟩ := hrel
    by_cases h8 : k < 12
    · have hn := HC.out k h8
      have h1 : (k : Int) < (S.size : Int) := by omega
      go_wp2
      go_roundw
      all_goals first | exact ⟨k + 1, by go_num, by omega, HW⟩ | (show 12 - ((k : Int) + 1).toNat < 12 - (k : Int).toNat; omega)
    · have h1 : ¬ (k : Int) < (S.size : Int) := by omega
      go_wp2
      go_ret
      exact ⟨rfl, HW.out⟩
/-- A slice of nodes that lies in a block of nodes. -/
def sT (w : World) (v : Value) (l : List Nd) : Prop := ∃ A cap, v = .slice A l.length cap ∧ l.length ≤ cap ∧ nds w A l ∧ ∀ ad, A = some ad → l ≠ [] → ∃ cs, Blk w ad.block 79 cs
theorem sT.below {w w' : World} {v : Value} {l : List Nd} (h : sT w v l) (k : Below w.heap.size w w') : sT w' v l := by
  obtain ⟨A, cap, e, hc, hn, ht⟩ := h
  exact ⟨A, cap, e, hc, hn.below k, fun ad ha hl => by obtain ⟨cs, hb⟩ := ht ad ha hl; exact ⟨cs, hb.below k⟩⟩
theorem sT_nil (w : World) : sT w (.slice none 0 0) [] := ⟨none, 0, rfl, Nat.le_refl _, nds_nil _ _, fun _ e => by cases e⟩
/-- Writes to blocks of another type leave it. -/
theorem sT.only {w w' : World} {v : Value} {l : List Nd} (h : sT w v l) {S : Nat → Prop} (k : Only S w w') (hS : ∀ i, S i → i < w.heap.size → ∃ t cs, Blk w i t cs ∧ t ≠ 79) : sT w' v l := by
  obtain ⟨A, cap, e, hc, hn, ht⟩ := h
  have hb : ∀ ad, A = some ad → l ≠ [] → ¬ S ad.block := fun ad ha hl hs => by
    obtain ⟨cs, hb⟩ := ht ad ha hl
    obtain ⟨t, cs', hb', hne⟩ := hS _ hs hb.lt
    exact Blk.apart hb' hb hne rfl
  refine ⟨A, cap, e, hc, fun i x hi => ?_, fun ad ha hl => by obtain ⟨cs, h1⟩ := ht ad ha hl; exact ⟨cs, h1.only k (hb ad ha hl)⟩⟩
  obtain ⟨b, off, ha, hlt, hp⟩ := hn i x hi
  have hl : l ≠ [] := by rintro rfl; simp at hi
  have hcell : ∀ j, w'.cell? ⟨b, j, none⟩ = w.cell? ⟨b, j, none⟩ := fun j => by
    have h1 := k.block b hlt (hb _ ha hl)
    simp only [World.cell?, h1]
  exact ⟨b, off, ha, Nat.lt_of_lt_of_le hlt k.size, hp.s, hp.ik, hp.ikn, hp.il, hp.ih, (hcell _).trans hp.c0, (hcell _).trans hp.c1, fun i y hy => (hcell _).trans (hp.cs i y hy), (hcell _).trans hp.c6, (hcell _).trans hp.c7⟩
theorem in1 : in64 1 := by unfold in64; omega
theorem in0 : in64 0 := by unfold in64; omega
theorem one_made {x0 x1 x2 x3 N : Nat} (h : isSet [x0, x1, x2, x3]) (u : World) (hN : N = u.heap.size) :
    sT (u.alloc (.cells #[.int .i64 1, .int .i64 0, .int .u64 (x0 : Int), .int .u64 (x1 : Int), .int .u64 (x2 : Int), .int .u64 (x3 : Int), .int .i64 0, .int .i64 0] 79)) (.slice (some ⟨N, 0, none⟩) 1 1) [⟨1, 0, [x0, x1, x2, x3], 0, 0⟩] := by
  subst hN
  have hB := Blk.fresh u 79 #[.int .i64 1, .int .i64 0, .int .u64 (x0 : Int), .int .u64 (x1 : Int), .int .u64 (x2 : Int), .int .u64 (x3 : Int), .int .i64 0, .int .i64 0]
  refine ⟨some ⟨u.heap.size, 0, none⟩, 1, rfl, Nat.le_refl _, fun i x hi => ?_, fun ad e _ => by cases e; exact ⟨_, hB⟩⟩
  match i, hi with
  | 0, hi =>
    obtain rfl := Option.some.inj hi
    refine ⟨u.heap.size, 0, rfl, hB.lt, h, in1, in0, in0, in0, hB.cell 0, hB.cell 1, fun i y hy => ?_, hB.cell 6, hB.cell 7⟩
    match i, hy with
    | 0, hy => obtain rfl := Option.some.inj hy; exact hB.cell 2
    | 1, hy => obtain rfl := Option.some.inj hy; exact hB.cell 3
    | 2, hy => obtain rfl := Option.some.inj hy; exact hB.cell 4
    | 3, hy => obtain rfl := Option.some.inj hy; exact hB.cell 5
    | (k + 4), hy => simp at hy
  | (k + 1), hi => simp at hi
set_option maxHeartbeats 1000000 in
set_option maxRecDepth 100000 in
theorem rone_any {a : List Nat} (ha : isSet a) (w : World) :
    Calls Try.prog 98 #[.agg (sv a)] w fun e w' => ∃ v', e = .returned v' ∧ sT w' v' [⟨1, 0, a, 0, 0⟩] ∧ Below w.heap.size w w' := by
  have HS := Lib.hid ha
  obtain ⟨x0, x1, x2, x3, rfl⟩ := four_of ha
  rw [sv_four]
  clear ha
  go_enter Try.func98, Try.ntmps98
  go_wp2
  go_ret
  refine ⟨.slice (some ⟨w.heap.size + 1, 0, none⟩) 1 1, rfl, one_made HS.out (w.alloc _) ?_, grows (below_alloc w _) (below_alloc _ _)⟩
  exact (Array.size_push _).symm
end Go.Proofs.Ythjelilmlbbalaa.Aq
