/-
  A machine that inflates, in numbers: what is still to come, and how it comes.
  Conditions: as each theorem says.
-/
import Derived.Test.YtnkninjdpgpkmaaGreatDoorBaj
namespace Go.Proofs.YtnkninjdpgpkmaaGreatDoor.Im
open Go.Proofs.YtnkninjdpgpkmaaGreatDoor.Bm Go.Proofs.YtnkninjdpgpkmaaGreatDoor.Nm Go.Proofs.YtnkninjdpgpkmaaGreatDoor.Pm Go.Proofs.YtnkninjdpgpkmaaGreatDoor.Km Go.Proofs.YtnkninjdpgpkmaaGreatDoor.Kw Go.Proofs.YtnkninjdpgpkmaaGreatDoor.Ks Go.Proofs.YtnkninjdpgpkmaaGreatDoor.Sm Go.Proofs.YtnkninjdpgpkmaaGreatDoor.Fm Go.Proofs.YtnkninjdpgpkmaaGreatDoor.Fa

/-- What comes. -/
abbrev Res := Int × List (Nat × Nat) × Nat × List UInt8
/-- What produces: nothing, between blocks; a stored block; a coded one. -/
inductive Nx where
  | no
  | sto (q : Nat)
  | sym (Li Di : List Nat)
/-- A code that may be read. -/
structure code (l : List Nat) : Prop where
  h15 : ∀ i, nth l i ≤ 15
  ks : ksum l 16 ≤ 32768
  len : l.length ≤ 320
def Nx.ok (a : Nat) : Nx → Prop
  | .no => True
  | .sto q => a % 8 = 0 ∧ q ≤ 65535
  | .sym Li Di => code Li ∧ code Di
def Nx.num : Nx → Nat
  | .no => 0
  | .sto _ => 1
  | .sym _ _ => 1
/-- A stored block's bytes. -/
def stoP (N M a q : Nat) : Int × Nat × List UInt8 := if (M - a) / 8 < q then (2, a + 8 * ((M - a) / 8), stoB N a ((M - a) / 8)) else (0, a + 8 * q, stoB N a q)
/-- What comes behind a block's bytes b, which stand behind c, where k were made. -/
noncomputable def goOn (b : Int × Nat × List UInt8) (fin : Bool) (N M : Nat) (c : List UInt8) (k : Nat) : Res :=
  if b.1 ≠ 0 ∨ fin = true then (b.1, [], b.2.1, b.2.2)
  else ((allM N M b.2.1 (c ++ b.2.2) (k + b.2.2.length)).1, (allM N M b.2.1 (c ++ b.2.2) (k + b.2.2.length)).2.1, (allM N M b.2.1 (c ++ b.2.2) (k + b.2.2.length)).2.2.1, b.2.2 ++ (allM N M b.2.1 (c ++ b.2.2) (k + b.2.2.length)).2.2.2)
/-- A machine: what is wrong, whether this block is the last one, what produces, the place, all bytes so far, all beginnings so far. -/
structure St where
  e : Int
  fin : Bool
  nx : Nx
  a : Nat
  T : List UInt8
  L : List (Nat × Nat)
/-- What is still to come, where p stands ahead of all bytes. -/
noncomputable def restM (N M : Nat) (p : List UInt8) (s : St) : Res :=
  if s.e ≠ 0 then (s.e, [], s.a, [])
  else match s.nx with
  | .no => if s.fin = true then (0, [], s.a, []) else allM N M s.a (p ++ s.T) s.T.length
  | .sto q => goOn (stoP N M s.a q) s.fin N M (p ++ s.T) s.T.length
  | .sym Li Di => goOn (codM Li Di N M s.a (p ++ s.T)) s.fin N M (p ++ s.T) s.T.length
/-- r is the beginnings ls, the bytes o, and then r'. -/
structure fol (r : Res) (ls : List (Nat × Nat)) (o : List UInt8) (r' : Res) : Prop where
  e : r.1 = r'.1
  l : r.2.1 = ls ++ r'.2.1
  n : r.1 = 0 → r.2.2.1 = r'.2.2.1
  t : r.2.2.2 = o ++ r'.2.2.2
theorem fol.refl (r : Res) : fol r [] [] r := ⟨rfl, rfl, fun _ => rfl, rfl⟩
theorem fol.trans {r r' r'' : Res} {ls ls' : List (Nat × Nat)} {o o' : List UInt8} (h : fol r ls o r') (k : fol r' ls' o' r'') : fol r (ls ++ ls') (o ++ o') r'' :=
  ⟨h.e.trans k.e, by rw [h.l, k.l, List.append_assoc], fun e => (h.n e).trans (k.n (h.e ▸ e)), by rw [h.t, k.t, List.append_assoc]⟩
/-- The machine is on its way to all that comes of a0. -/
structure inv (N M a0 : Nat) (p : List UInt8) (s : St) : Prop where
  le : s.a ≤ M
  nx : s.nx.ok s.a
  len : s.T.length + 258 * (M - s.a) ≤ 258 * M
  f : fol (allM N M a0 p 0) s.L s.T (restM N M p s)
theorem inv.start {N M a0 : Nat} (p : List UInt8) (h : a0 ≤ M) : inv N M a0 p ⟨0, false, .no, a0, [], []⟩ :=
  ⟨h, trivial, by show 0 + 258 * (M - a0) ≤ 258 * M; omega, by unfold restM; rw [if_neg (by simp)]; show fol (allM N M a0 p 0) [] [] (if false = true then _ else allM N M a0 (p ++ []) 0); rw [if_neg (by simp), List.append_nil]; exact fol.refl _⟩

section
variable {N M a0 : Nat} {p : List UInt8} {s s' : St}
theorem inv.move (h : inv N M a0 p s) {ls : List (Nat × Nat)} {o : List UInt8} (f : fol (restM N M p s) ls o (restM N M p s')) (hL : s'.L = s.L ++ ls) (hT : s'.T = s.T ++ o) (ha : s'.a ≤ M) (hn : s'.nx.ok s'.a) (hl : o.length + 258 * (M - s'.a) ≤ 258 * (M - s.a)) : inv N M a0 p s' :=
  ⟨ha, hn, by rw [hT, List.length_append]; have := h.len; omega, by rw [hL, hT]; exact h.f.trans f⟩
theorem rest_err (he : s.e ≠ 0) : restM N M p s = (s.e, [], s.a, []) := by unfold restM; rw [if_pos he]
/-- Something is wrong: all that comes has come. -/
theorem inv.wrong (h : inv N M a0 p s) (he : s.e ≠ 0) : (allM N M a0 p 0).1 = s.e ∧ (allM N M a0 p 0).2.2.2 = s.T := by
  have f := h.f
  rw [rest_err he] at f
  exact ⟨f.e, by rw [f.t]; simp⟩
/-- All is done. -/
theorem inv.done (h : inv N M a0 p s) (he : s.e = 0) (hn : s.nx = .no) (hf : s.fin = true) : (allM N M a0 p 0).1 = 0 ∧ (allM N M a0 p 0).2.1 = s.L ∧ (allM N M a0 p 0).2.2.1 = s.a ∧ (allM N M a0 p 0).2.2.2 = s.T := by
  have f := h.f
  have e : restM N M p s = (0, [], s.a, []) := by unfold restM; rw [if_neg (by omega), hn]; simp only; rw [if_pos hf]
  rw [e] at f
  exact ⟨f.e, by rw [f.l]; simp, f.n f.e, by rw [f.t]; simp⟩
/-- The bytes so far begin the text. -/
theorem inv.text (h : inv N M a0 p s) : ∃ r, (allM N M a0 p 0).2.2.2 = s.T ++ r := ⟨_, h.f.t⟩

theorem rest_no (he : s.e = 0) (hn : s.nx = .no) (hf : s.fin = false) : restM N M p s = allM N M s.a (p ++ s.T) s.T.length := by
  unfold restM; rw [if_neg (by omega), hn]; simp only; rw [hf, if_neg (by simp)]
theorem rest_sto {q : Nat} (he : s.e = 0) (hn : s.nx = .sto q) : restM N M p s = goOn (stoP N M s.a q) s.fin N M (p ++ s.T) s.T.length := by
  unfold restM; rw [if_neg (by omega), hn]
theorem rest_sym {Li Di : List Nat} (he : s.e = 0) (hn : s.nx = .sym Li Di) : restM N M p s = goOn (codM Li Di N M s.a (p ++ s.T)) s.fin N M (p ++ s.T) s.T.length := by
  unfold restM; rw [if_neg (by omega), hn]

/-- A head is wrong. -/
theorem inv.head_no (h : inv N M a0 p s) (he : s.e = 0) (hn : s.nx = .no) (hf : s.fin = false) (h1 : (headM N M s.a).1 ≠ 0) {a' : Nat} (ha : s.a ≤ a') (hM : a' ≤ M) : inv N M a0 p { s with e := (headM N M s.a).1, a := a' } := by
  refine h.move (ls := []) (o := []) ?_ (List.append_nil _).symm (List.append_nil _).symm hM ?_ (by show 0 + 258 * (M - a') ≤ 258 * (M - s.a); omega)
  · rw [rest_no he hn hf, rest_err (s := { s with e := (headM N M s.a).1, a := a' }) h1, all_head h1]
    exact ⟨rfl, rfl, fun e => absurd e h1, rfl⟩
  · show Nx.ok a' s.nx
    rw [hn]; exact trivial
/-- What produces a block's bytes. -/
def nxOf (h : Hd) : Nx := if h.kind = 0 then .sto h.size else .sym h.lits h.dists
/-- A head was read. -/
theorem inv.head (h : inv N M a0 p s) (he : s.e = 0) (hn : s.nx = .no) (hf : s.fin = false) (h1 : (headM N M s.a).1 = 0) (hk : (nxOf (headM N M s.a).2.1).ok (headM N M s.a).2.2) :
    inv N M a0 p ⟨0, (headM N M s.a).2.1.fin, nxOf (headM N M s.a).2.1, (headM N M s.a).2.2, s.T, s.L ++ [(s.a, s.T.length)]⟩ := by
  have hh := (head_facts h1).2
  refine h.move (ls := [(s.a, s.T.length)]) (o := []) ?_ rfl (List.append_nil _).symm hh.2 hk (by show 0 + 258 * (M - (headM N M s.a).2.2) ≤ 258 * (M - s.a); omega)
  have e2 : restM N M p ⟨0, (headM N M s.a).2.1.fin, nxOf (headM N M s.a).2.1, (headM N M s.a).2.2, s.T, s.L ++ [(s.a, s.T.length)]⟩ = goOn (bodM (headM N M s.a).2.1 N M (headM N M s.a).2.2 (p ++ s.T)) (headM N M s.a).2.1.fin N M (p ++ s.T) s.T.length := by
    unfold nxOf bodM
    by_cases hz : (headM N M s.a).2.1.kind = 0
    · rw [if_pos hz, if_pos hz, rest_sto rfl rfl]; rfl
    · rw [if_neg hz, if_neg hz, rest_sym rfl rfl]
  rw [e2, rest_no he hn hf]
  rcases all_cases N M s.a (p ++ s.T) with g | ⟨_, g2⟩ | ⟨_, g2, g3⟩
  · exact absurd h1 g
  · rw [all_stop h1 g2]
    unfold goOn
    rw [if_pos g2]
    exact ⟨rfl, rfl, fun _ => rfl, rfl⟩
  · rw [all_next h1 g2 g3 rfl]
    unfold goOn
    rw [if_neg (by rw [g2, g3]; simp)]
    exact ⟨rfl, rfl, fun _ => rfl, rfl⟩

/-- A block's bytes end well. -/
theorem goOn_end {fin : Bool} {a' : Nat} {o c : List UInt8} {k : Nat} {L : List (Nat × Nat)} {T : List UInt8} (hc : c = p ++ T) (hk : k = T.length) :
    fol (goOn (0, a', o) fin N M c k) [] o (restM N M p ⟨0, fin, .no, a', T ++ o, L⟩) := by
  subst hc; subst hk
  unfold goOn restM
  cases fin
  · simp only [ne_eq, not_true_eq_false, Bool.false_eq_true, or_self, if_false, List.append_assoc, List.length_append]
    exact ⟨rfl, rfl, fun _ => rfl, rfl⟩
  · simp only [ne_eq, not_true_eq_false, or_true, if_true, if_false]
    exact ⟨rfl, rfl, fun _ => rfl, by simp⟩
theorem goOn_bad {fin : Bool} {e : Int} (he : e ≠ 0) {a' a'' : Nat} {o c : List UInt8} {k : Nat} {L : List (Nat × Nat)} {T : List UInt8} {nx : Nx} :
    fol (goOn (e, a', o) fin N M c k) [] o (restM N M p ⟨e, fin, nx, a'', T, L⟩) := by
  rw [rest_err (s := ⟨e, fin, nx, a'', T, L⟩) he]
  unfold goOn
  rw [if_pos (.inl he)]
  exact ⟨rfl, rfl, fun h => absurd h he, by simp⟩
theorem goOn_more {fin : Bool} (r : Int × Nat × List UInt8) (o c : List UInt8) (k : Nat) : fol (goOn (r.1, r.2.1, o ++ r.2.2) fin N M c k) [] o (goOn r fin N M (c ++ o) (k + o.length)) := by
  unfold goOn
  by_cases h : r.1 ≠ 0 ∨ fin = true
  · rw [if_pos h, if_pos h]; exact ⟨rfl, rfl, fun _ => rfl, rfl⟩
  · rw [if_neg h, if_neg h]
    simp only [List.append_assoc, List.length_append, Nat.add_assoc]
    exact ⟨rfl, rfl, fun _ => rfl, rfl⟩

/-- A stored block is there. -/
theorem inv.sto (h : inv N M a0 p s) (he : s.e = 0) {q : Nat} (hn : s.nx = .sto q) (hq : ¬ (M - s.a) / 8 < q) : inv N M a0 p ⟨0, s.fin, .no, s.a + 8 * q, s.T ++ stoB N s.a q, s.L⟩ := by
  have := h.le
  refine h.move (ls := []) (o := stoB N s.a q) ?_ (List.append_nil _).symm rfl (by show s.a + 8 * q ≤ M; omega) trivial (by rw [stoB_length]; show q + 258 * (M - (s.a + 8 * q)) ≤ 258 * (M - s.a); omega)
  rw [rest_sto he hn]
  unfold stoP
  rw [if_neg hq]
  exact goOn_end rfl rfl
theorem inv.sto_no (h : inv N M a0 p s) (he : s.e = 0) {q : Nat} (hn : s.nx = .sto q) (hq : (M - s.a) / 8 < q) : inv N M a0 p ⟨2, s.fin, s.nx, s.a + 8 * ((M - s.a) / 8), s.T ++ stoB N s.a ((M - s.a) / 8), s.L⟩ := by
  have := h.le
  refine h.move (ls := []) (o := stoB N s.a ((M - s.a) / 8)) ?_ (List.append_nil _).symm rfl (by show s.a + 8 * ((M - s.a) / 8) ≤ M; omega) ?_ (by rw [stoB_length]; show (M - s.a) / 8 + 258 * (M - (s.a + 8 * ((M - s.a) / 8))) ≤ 258 * (M - s.a); omega)
  · rw [rest_sto he hn]
    unfold stoP
    rw [if_pos hq]
    exact goOn_bad (by omega)
  · have hk := h.nx
    rw [hn] at hk ⊢
    exact ⟨by have h2 : s.a % 8 = 0 := hk.1; show (s.a + 8 * ((M - s.a) / 8)) % 8 = 0; omega, hk.2⟩
/-- A symbol is wrong. -/
theorem inv.sym_no (h : inv N M a0 p s) (he : s.e = 0) {Li Di : List Nat} (hn : s.nx = .sym Li Di) {e : Int} (hs : symM Li Di N M s.a (p ++ s.T).length = .err e) (h0 : e ≠ 0) {a' : Nat} (ha : s.a ≤ a') (hM : a' ≤ M) : inv N M a0 p { s with e := e, a := a' } := by
  refine h.move (ls := []) (o := []) ?_ (List.append_nil _).symm (List.append_nil _).symm hM ?_ (by show 0 + 258 * (M - a') ≤ 258 * (M - s.a); omega)
  · rw [rest_sym he hn, cod_err hs]
    exact goOn_bad h0
  · have hk := h.nx
    show Nx.ok a' s.nx
    rw [hn] at hk ⊢
    exact hk
theorem inv.sym_fin (h : inv N M a0 p s) (he : s.e = 0) {Li Di : List Nat} (hn : s.nx = .sym Li Di) {a' : Nat} (hs : symM Li Di N M s.a (p ++ s.T).length = .fin a') (ha : s.a ≤ a') (hM : a' ≤ M) : inv N M a0 p { s with nx := .no, a := a' } := by
  refine h.move (ls := []) (o := []) ?_ (List.append_nil _).symm (List.append_nil _).symm hM trivial (by show 0 + 258 * (M - a') ≤ 258 * (M - s.a); omega)
  have h2 := goOn_end (N := N) (M := M) (p := p) (fin := s.fin) (a' := a') (o := []) (c := p ++ s.T) (k := s.T.length) (L := s.L) (T := s.T) rfl rfl
  rw [List.append_nil] at h2
  have e2 : ({ s with nx := .no, a := a' } : St) = ⟨0, s.fin, .no, a', s.T, s.L⟩ := by rw [← he]
  rw [rest_sym he hn, cod_fin hs, e2]
  exact h2
theorem inv.sym_byte (h : inv N M a0 p s) (he : s.e = 0) {Li Di : List Nat} (hn : s.nx = .sym Li Di) {a' x : Nat} (hs : symM Li Di N M s.a (p ++ s.T).length = .byte a' x) (ha : s.a < a') (hM : a' ≤ M) : inv N M a0 p { s with a := a', T := s.T ++ [UInt8.ofNat x] } := by
  refine h.move (ls := []) (o := [UInt8.ofNat x]) ?_ (List.append_nil _).symm rfl hM ?_ (by show 1 + 258 * (M - a') ≤ 258 * (M - s.a); omega)
  · have h2 := goOn_more (N := N) (M := M) (fin := s.fin) (codM Li Di N M a' (p ++ s.T ++ [UInt8.ofNat x])) [UInt8.ofNat x] (p ++ s.T) s.T.length
    have e2 : restM N M p { s with a := a', T := s.T ++ [UInt8.ofNat x] } = goOn (codM Li Di N M a' (p ++ s.T ++ [UInt8.ofNat x])) s.fin N M (p ++ s.T ++ [UInt8.ofNat x]) (s.T.length + 1) := by
      rw [rest_sym (s := { s with a := a', T := s.T ++ [UInt8.ofNat x] }) he hn, List.length_append, List.append_assoc]; rfl
    rw [rest_sym he hn, cod_byte hs ⟨ha, hM⟩, e2]
    exact h2
  · have hk := h.nx
    show Nx.ok a' s.nx
    rw [hn] at hk ⊢
    exact hk
theorem inv.sym_copy (h : inv N M a0 p s) (he : s.e = 0) {Li Di : List Nat} (hn : s.nx = .sym Li Di) {a' n d : Nat} (hs : symM Li Di N M s.a (p ++ s.T).length = .copy a' n d) (ha : s.a < a') (hM : a' ≤ M) (h258 : n ≤ 258) : inv N M a0 p { s with a := a', T := s.T ++ Wm.out (p ++ s.T) d n } := by
  refine h.move (ls := []) (o := Wm.out (p ++ s.T) d n) ?_ (List.append_nil _).symm rfl hM ?_ (by rw [Wm.out_length]; show n + 258 * (M - a') ≤ 258 * (M - s.a); omega)
  · have h2 := goOn_more (N := N) (M := M) (fin := s.fin) (codM Li Di N M a' (p ++ s.T ++ Wm.out (p ++ s.T) d n)) (Wm.out (p ++ s.T) d n) (p ++ s.T) s.T.length
    have e2 : restM N M p { s with a := a', T := s.T ++ Wm.out (p ++ s.T) d n } = goOn (codM Li Di N M a' (p ++ s.T ++ Wm.out (p ++ s.T) d n)) s.fin N M (p ++ s.T ++ Wm.out (p ++ s.T) d n) (s.T.length + (Wm.out (p ++ s.T) d n).length) := by
      rw [rest_sym (s := { s with a := a', T := s.T ++ Wm.out (p ++ s.T) d n }) he hn, List.length_append, List.append_assoc]
    rw [rest_sym he hn, cod_copy hs ⟨ha, hM⟩, e2]
    exact h2
  · have hk := h.nx
    show Nx.ok a' s.nx
    rw [hn] at hk ⊢
    exact hk
/-- Not too much comes of z bytes from a0 on. -/
structure limM (N n a0 : Nat) (p : List UInt8) : Prop where
  z : n ≤ 1000000
  T : (allM N (8 * n) a0 p 0).2.2.2.length ≤ 9000000
  L : (allM N (8 * n) a0 p 0).2.1.length ≤ 1000000
theorem inv.fewT {z : Nat} (h : inv N (8 * z) a0 p s) (l : limM N z a0 p) : s.T.length ≤ 9000000 := by
  have h1 := l.T
  rw [h.f.t, List.length_append] at h1
  omega
theorem inv.fewL {z : Nat} (h : inv N (8 * z) a0 p s) (l : limM N z a0 p) : s.L.length ≤ 1000000 := by
  have h1 := l.L
  rw [h.f.l, List.length_append] at h1
  omega
/-- Nothing more is produced. -/
def St.over (s : St) : Prop := s.e ≠ 0 ∨ (s.nx = .no ∧ s.fin = true)
/-- How far it is to the end, at most. -/
def St.far (M : Nat) (s : St) : Nat := 4 * (M - s.a) + 2 * s.nx.num + (if s.e = 0 then 1 else 0)
end
end Go.Proofs.YtnkninjdpgpkmaaGreatDoor.Im
