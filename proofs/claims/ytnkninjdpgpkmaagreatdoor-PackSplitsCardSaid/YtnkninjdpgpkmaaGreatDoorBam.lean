/-
  The ops that make a text, in lists: the longest copy at each byte; they make the text; a text in pieces.
  Parts as they come, in numbers: what is wrong of them, what they stand for, what is written of them.
  The longest copy at a byte, in lists: which distances need not be looked at.
  Conditions: as each theorem says.
-/
import Derived.Test.YtnkninjdpgpkmaaGreatDoorBaj
namespace Go.Proofs.YtnkninjdpgpkmaaGreatDoor.Gr
open Go.Proofs.YtnkninjdpgpkmaaGreatDoor.Gm Go.Proofs.YtnkninjdpgpkmaaGreatDoor.Ga

/-- How long a copy from d ahead may be, n of it having been seen. -/
def runF (s : List UInt8) (a d : Nat) : Nat → Nat → Nat
  | 0, n => n
  | f + 1, n => if a + n < s.length ∧ n < 258 ∧ s[a + n]? = s[a + n - d]? then runF s a d f (n + 1) else n
def run (s : List UInt8) (a d : Nat) : Nat := runF s a d 258 0
theorem runF_stop {s : List UInt8} {a d f n : Nat} (h : ¬ (a + n < s.length ∧ n < 258 ∧ s[a + n]? = s[a + n - d]?)) : runF s a d f n = n := by
  cases f with
  | zero => rfl
  | succ f => rw [runF, if_neg h]
theorem runF_next {s : List UInt8} {a d f n : Nat} (h : a + n < s.length ∧ n < 258 ∧ s[a + n]? = s[a + n - d]?) : runF s a d (f + 1) n = runF s a d f (n + 1) := by rw [runF, if_pos h]
theorem runF_facts (s : List UInt8) (a d : Nat) : ∀ f n, n ≤ 258 → a + n ≤ s.length → (∀ j, j < n → s[a + j]? = s[a + j - d]?) → runF s a d f n ≤ 258 ∧ a + runF s a d f n ≤ s.length ∧ ∀ j, j < runF s a d f n → s[a + j]? = s[a + j - d]?
  | 0, n, h1, h2, h3 => ⟨h1, h2, h3⟩
  | f + 1, n, h1, h2, h3 => by
    by_cases h : a + n < s.length ∧ n < 258 ∧ s[a + n]? = s[a + n - d]?
    · rw [runF_next h]
      exact runF_facts s a d f (n + 1) (by omega) (by omega) (fun j hj => by
        rcases (show j < n ∨ j = n by omega) with k | rfl
        · exact h3 j k
        · exact h.2.2)
    · rw [runF_stop h]; exact ⟨h1, h2, h3⟩
theorem run_facts {s : List UInt8} {a : Nat} (ha : a ≤ s.length) (d : Nat) : run s a d ≤ 258 ∧ a + run s a d ≤ s.length ∧ ∀ j, j < run s a d → s[a + j]? = s[a + j - d]? :=
  runF_facts s a d 258 0 (by omega) (by omega) (fun j hj => absurd hj (by omega))
/-- The longest of the first k distances, the nearest of those. -/
def best (s : List UInt8) (a : Nat) : Nat → Nat × Nat
  | 0 => (0, 0)
  | k + 1 => if (best s a k).1 < run s a (k + 1) then (run s a (k + 1), k + 1) else best s a k
theorem best_facts {s : List UInt8} {a : Nat} (ha : a ≤ s.length) : ∀ k, (best s a k).1 ≤ 258 ∧ a + (best s a k).1 ≤ s.length ∧ (0 < (best s a k).1 → 1 ≤ (best s a k).2 ∧ (best s a k).2 ≤ k) ∧ ∀ j, j < (best s a k).1 → s[a + j]? = s[a + j - (best s a k).2]?
  | 0 => ⟨by simp [best], by simp only [best]; omega, fun h => by simp [best] at h, fun j hj => by simp [best] at hj⟩
  | k + 1 => by
    rw [best]
    obtain ⟨i1, i2, i3, i4⟩ := best_facts ha k
    by_cases h : (best s a k).1 < run s a (k + 1)
    · rw [if_pos h]
      obtain ⟨r1, r2, r3⟩ := run_facts ha (k + 1)
      exact ⟨r1, r2, fun _ => ⟨by show 1 ≤ k + 1; omega, Nat.le_refl _⟩, r3⟩
    · rw [if_neg h]
      exact ⟨i1, i2, fun h0 => by have := i3 h0; omega, i4⟩
/-- What a copy makes. -/
theorem out_run {s : List UInt8} {a d n : Nat} (hd : 1 ≤ d) (h1 : d ≤ a) (h2 : a + n ≤ s.length) (h3 : ∀ j, j < n → s[a + j]? = s[a + j - d]?) : Wm.out (s.take a) d n = (s.drop a).take n := by
  have hl : (s.take a).length = a := by rw [List.length_take]; omega
  have e : s.take (a + n) = Wm.ext (s.take a) d n := by
    refine Wm.ext_only hd (by omega) (by rw [List.length_take, hl]; omega) (by rw [List.take_take, hl, Nat.min_eq_left (by omega)]) (fun i hi hlt => ?_)
    rw [hl] at hi
    rw [List.length_take] at hlt
    rw [List.getElem?_take, List.getElem?_take, if_pos (by omega), if_pos (by omega)]
    have := h3 (i - a) (by omega)
    rw [show a + (i - a) = i by omega] at this
    exact this
  unfold Wm.out
  rw [← e, hl, List.drop_take]
  congr 1
  omega
/-- The ops of a text from a on. -/
def opsM (s : List UInt8) (a : Nat) : List Opx :=
  if _h : a < s.length then
    (if 3 ≤ (best s a (min 256 a)).1 then ⟨0, (best s a (min 256 a)).1, (best s a (min 256 a)).2⟩ :: opsM s (a + (best s a (min 256 a)).1)
    else ⟨s.getD a 0, 0, 0⟩ :: opsM s (a + 1))
  else []
termination_by s.length - a
decreasing_by all_goals omega
theorem opsM_copy {s : List UInt8} {a : Nat} (h : a < s.length) (h3 : 3 ≤ (best s a (min 256 a)).1) : opsM s a = ⟨0, (best s a (min 256 a)).1, (best s a (min 256 a)).2⟩ :: opsM s (a + (best s a (min 256 a)).1) := by rw [opsM, dif_pos h, if_pos h3]
theorem opsM_lit {s : List UInt8} {a : Nat} (h : a < s.length) (h3 : ¬ 3 ≤ (best s a (min 256 a)).1) : opsM s a = ⟨s.getD a 0, 0, 0⟩ :: opsM s (a + 1) := by rw [opsM, dif_pos h, if_neg h3]
theorem opsM_end {s : List UInt8} {a : Nat} (h : s.length ≤ a) : opsM s a = [] := by rw [opsM, dif_neg (by omega)]
/-- They make it. -/
theorem opsM_make (s p : List UInt8) (m : Nat) : ∀ a, s.length - a ≤ m → a ≤ s.length → opsO (p ++ s.take a) (opsM s a) = s.drop a ∧ okOs (p ++ s.take a) (opsM s a) ∧ (opsM s a).length ≤ s.length - a := by
  induction m with
  | zero =>
    intro a hm ha
    rw [opsM_end (by omega), List.drop_eq_nil_of_le (by omega)]
    exact ⟨rfl, trivial, Nat.zero_le _⟩
  | succ m ih =>
    intro a hm ha
    by_cases h : a < s.length
    · by_cases h3 : 3 ≤ (best s a (min 256 a)).1
      · obtain ⟨b1, b2, b3, b4⟩ := best_facts (s := s) ha (min 256 a)
        obtain ⟨b5, b6⟩ := b3 (by omega)
        rw [opsM_copy h h3]
        generalize (best s a (min 256 a)).1 = n at *
        generalize (best s a (min 256 a)).2 = d at *
        have hl : (s.take a).length = a := by rw [List.length_take]; omega
        have eo : Wm.out (p ++ s.take a) d n = (s.drop a).take n := by
          rw [← out_run b5 (by omega) b2 b4]
          have h1 := Wm.out_cut (c := p ++ s.take a) (m := a) b5 (by omega) (by rw [List.length_append, hl]; omega) n
          rw [Wm.lastN_right (by omega), Wm.lastN_all (by omega)] at h1
          exact h1.symm
        have ep : opO (p ++ s.take a) ⟨0, n, d⟩ = (s.drop a).take n := by
          unfold opO
          rw [if_neg (show ¬ n = 0 by omega)]
          exact eo
        have et : s.take a ++ (s.drop a).take n = s.take (a + n) := by rw [List.take_add]
        obtain ⟨i1, i2, i3⟩ := ih (a + n) (by omega) b2
        refine ⟨?_, ⟨.inr ⟨h3, b1, b5, by show d ≤ 32768; omega, by show d ≤ (p ++ s.take a).length; rw [List.length_append, hl]; omega⟩, ?_⟩, ?_⟩
        · rw [opsO, ep, List.append_assoc, et, i1, ← List.drop_drop, List.take_append_drop]
        · rw [ep, List.append_assoc, et]; exact i2
        · rw [List.length_cons]; omega
      · rw [opsM_lit h h3]
        have ep : opO (p ++ s.take a) ⟨s.getD a 0, 0, 0⟩ = [s.getD a 0] := by unfold opO; rw [if_pos rfl]
        have et : s.take a ++ [s.getD a 0] = s.take (a + 1) := by
          rw [List.take_succ_eq_append_getElem h, List.getD_eq_getElem?_getD, List.getElem?_eq_getElem h]; rfl
        obtain ⟨i1, i2, i3⟩ := ih (a + 1) (by omega) (by omega)
        refine ⟨?_, ⟨.inl rfl, ?_⟩, ?_⟩
        · rw [opsO, ep, List.append_assoc, et, i1, List.drop_eq_getElem_cons h, List.getD_eq_getElem?_getD, List.getElem?_eq_getElem h]; rfl
        · rw [ep, List.append_assoc, et]; exact i2
        · rw [List.length_cons]; omega
    · rw [opsM_end (by omega), List.drop_eq_nil_of_le (by omega)]
      exact ⟨rfl, trivial, Nat.zero_le _⟩
end Go.Proofs.YtnkninjdpgpkmaaGreatDoor.Gr
namespace Go.Proofs.YtnkninjdpgpkmaaGreatDoor.Gp
open Go.Proofs.YtnkninjdpgpkmaaGreatDoor.Bm Go.Proofs.YtnkninjdpgpkmaaGreatDoor.Nm Go.Proofs.YtnkninjdpgpkmaaGreatDoor.Ni Go.Proofs.YtnkninjdpgpkmaaGreatDoor.Ne Go.Proofs.YtnkninjdpgpkmaaGreatDoor.Nh Go.Proofs.YtnkninjdpgpkmaaGreatDoor.Pm Go.Proofs.YtnkninjdpgpkmaaGreatDoor.Km Go.Proofs.YtnkninjdpgpkmaaGreatDoor.Kw Go.Proofs.YtnkninjdpgpkmaaGreatDoor.Ks Go.Proofs.YtnkninjdpgpkmaaGreatDoor.Sm Go.Proofs.YtnkninjdpgpkmaaGreatDoor.Fm Go.Proofs.YtnkninjdpgpkmaaGreatDoor.Fa Go.Proofs.YtnkninjdpgpkmaaGreatDoor.Gm Go.Proofs.YtnkninjdpgpkmaaGreatDoor.Ga Go.Proofs.YtnkninjdpgpkmaaGreatDoor.Gr

/-- An op as it comes. -/
structure Opi where
  x : UInt8
  n : Int
  d : Int
def Opi.nat (o : Opi) : Opx := ⟨o.x, o.n.toNat, o.d.toNat⟩
/-- What is wrong of an op behind so many bytes. -/
def opW (len : Nat) (o : Opi) : Int := if o.n = 0 then 0 else if o.n < 3 ∨ 258 < o.n ∨ o.d < 1 ∨ 32768 < o.d then 1 else if (len : Int) < o.d then 10 else 0
/-- Ops behind b: what is wrong, and all bytes. -/
def opsT (b : List UInt8) : List Opi → Int × List UInt8
  | [] => (0, b)
  | o :: r => if opW b.length o = 0 then opsT (b ++ opO b o.nat) r else (opW b.length o, b)
/-- A part as it comes. -/
structure Pz where
  k : Int
  t : ByteArray
  os : List Opi
  n1 : Nat
  f1 : Nat → Int
  n2 : Nat
  f2 : Nat → Int
def ptT (b : List UInt8) (p : Pz) : Int × List UInt8 := if p.k < 0 ∨ 2 < p.k ∨ (p.k = 0 ∧ 65535 < p.t.size) then (1, b) else if p.k = 0 then (0, b ++ p.t.data.toList) else opsT b p.os
def ptsT (b : List UInt8) : List Pz → Int × List UInt8
  | [] => (0, b)
  | p :: r => if (ptT b p).1 = 0 then ptsT (ptT b p).2 r else ptT b p
/-- The text of parts: what is wrong, and the text. -/
def textM (l : List Pz) : Int × List UInt8 := if l = [] then (17, []) else if (ptsT [] l).1 = 0 then ptsT [] l else ((ptsT [] l).1, [])
/-- How many bytes it can be, at most. -/
def opC (o : Opi) : Nat := (if 0 < o.n ∧ o.n < 300 then o.n.toNat else 0) + 1
def opsC : List Opi → Nat
  | [] => 0
  | o :: r => opC o + opsC r
def ptC (p : Pz) : Nat := p.t.size + opsC p.os
def ptsC : List Pz → Nat
  | [] => 0
  | p :: r => ptC p + ptsC r

theorem opW_zero {len : Nat} {o : Opi} (h : opW len o = 0) : o.n = 0 ∨ (3 ≤ o.n ∧ o.n ≤ 258 ∧ 1 ≤ o.d ∧ o.d ≤ 32768 ∧ o.d ≤ (len : Int)) := by
  unfold opW at h
  by_cases h0 : o.n = 0
  · exact .inl h0
  · rw [if_neg h0] at h
    by_cases h1 : o.n < 3 ∨ 258 < o.n ∨ o.d < 1 ∨ 32768 < o.d
    · rw [if_pos h1] at h; cases h
    · rw [if_neg h1] at h
      by_cases h2 : (len : Int) < o.d
      · rw [if_pos h2] at h; cases h
      · exact .inr (by omega)
theorem opW_ok {b : List UInt8} {o : Opi} (h : opW b.length o = 0) : okO b o.nat := by
  rcases opW_zero h with h | ⟨h1, h2, h3, h4, h5⟩
  · left; show o.n.toNat = 0; omega
  · right; show 3 ≤ o.n.toNat ∧ o.n.toNat ≤ 258 ∧ 1 ≤ o.d.toNat ∧ o.d.toNat ≤ 32768 ∧ o.d.toNat ≤ b.length; omega
theorem opO_lit {b : List UInt8} {o : Opi} (h : o.n = 0) : opO b o.nat = [o.x] := by
  unfold opO; rw [if_pos (show o.nat.n = 0 by show o.n.toNat = 0; omega)]; rfl
theorem opO_copy {b : List UInt8} {o : Opi} (h : 3 ≤ o.n) : opO b o.nat = Wm.out b o.d.toNat o.n.toNat := by
  unfold opO; rw [if_neg (show ¬ o.nat.n = 0 by show ¬ o.n.toNat = 0; omega)]; rfl
theorem opO_len {b : List UInt8} {o : Opi} (h : opW b.length o = 0) : (opO b o.nat).length ≤ opC o := by
  unfold opC
  rcases opW_zero h with h | ⟨h1, h2, h3, h4, h5⟩
  · rw [opO_lit h]; simp
  · rw [opO_copy h1, Wm.out_length, if_pos (by omega)]; omega
theorem opsT_cons {b : List UInt8} {o : Opi} {r : List Opi} : opsT b (o :: r) = if opW b.length o = 0 then opsT (b ++ opO b o.nat) r else (opW b.length o, b) := rfl
theorem opsT_ok : ∀ (os : List Opi) (b : List UInt8), (opsT b os).1 = 0 → okOs b (os.map Opi.nat) ∧ (opsT b os).2 = b ++ opsO b (os.map Opi.nat)
  | [], b, _ => ⟨trivial, (List.append_nil b).symm⟩
  | o :: r, b, h => by
    rw [opsT_cons] at h ⊢
    by_cases h0 : opW b.length o = 0
    · rw [if_pos h0] at h ⊢
      obtain ⟨h1, h2⟩ := opsT_ok r (b ++ opO b o.nat) h
      refine ⟨⟨opW_ok h0, h1⟩, ?_⟩
      rw [h2, List.map_cons, opsO, List.append_assoc]
    · rw [if_neg h0] at h; exact absurd h h0
theorem opsT_len : ∀ (os : List Opi) (b : List UInt8), (opsT b os).2.length ≤ b.length + opsC os
  | [], b => by simp [opsT, opsC]
  | o :: r, b => by
    rw [opsT_cons]
    by_cases h0 : opW b.length o = 0
    · rw [if_pos h0]
      have h1 := opsT_len r (b ++ opO b o.nat)
      have h2 := opO_len h0
      rw [List.length_append] at h1
      simp only [opsC]
      omega
    · rw [if_neg h0]; simp
theorem ptT_len (b : List UInt8) (p : Pz) : (ptT b p).2.length ≤ b.length + ptC p := by
  unfold ptT ptC
  by_cases h1 : p.k < 0 ∨ 2 < p.k ∨ (p.k = 0 ∧ 65535 < p.t.size)
  · rw [if_pos h1]; simp
  · rw [if_neg h1]
    by_cases h2 : p.k = 0
    · rw [if_pos h2]
      have e : p.t.data.toList.length = p.t.size := Array.length_toList
      show (b ++ p.t.data.toList).length ≤ _
      rw [List.length_append, e]; omega
    · rw [if_neg h2]; have := opsT_len p.os b; omega
theorem ptsT_len : ∀ (l : List Pz) (b : List UInt8), (ptsT b l).2.length ≤ b.length + ptsC l
  | [], b => by simp [ptsT, ptsC]
  | p :: r, b => by
    have h0 := ptT_len b p
    simp only [ptsT, ptsC]
    by_cases h : (ptT b p).1 = 0
    · rw [if_pos h]
      have h1 := ptsT_len r (ptT b p).2
      omega
    · rw [if_neg h]; omega

instance (l : List Nat) (y : Nat) : Decidable (has l y) := by unfold has; infer_instance
instance (Li Di : List Nat) (o : Opx) : Decidable (hasO Li Di o) := by unfold hasO; infer_instance
/-- Whether all that ops need has a code, and the end too. -/
def opsE (Li Di : List Nat) : List Opx → Int
  | [] => if has Li 256 then 0 else 1
  | o :: r => if hasO Li Di o then opsE Li Di r else 1
def Pz.pt (p : Pz) : Pt := ⟨p.k.toNat, p.t.data.toList, p.os.map Opi.nat, L p.n1 p.f1, L p.n2 p.f2⟩
/-- What is wrong of a part that is to be written. -/
def ptE (p : Pz) : Int := if wrM p.k p.t.size p.n1 p.f1 p.n2 p.f2 ≠ 0 then wrM p.k p.t.size p.n1 p.f1 p.n2 p.f2 else if p.k = 0 then 0 else opsE (lis p.pt) (dis p.pt) p.pt.ops
def ptsE : List Pz → Int
  | [] => 0
  | p :: r => if ptE p = 0 then ptsE r else ptE p
theorem ptsE_cons {p : Pz} {r : List Pz} : ptsE (p :: r) = if ptE p = 0 then ptsE r else ptE p := rfl
theorem opsE_ok {Li Di : List Nat} : ∀ os : List Opx, opsE Li Di os = 0 → (∀ o ∈ os, hasO Li Di o) ∧ has Li 256
  | [], h => by
    refine ⟨fun _ h => (nomatch h), ?_⟩
    unfold opsE at h
    by_cases h1 : has Li 256
    · exact h1
    · rw [if_neg h1] at h; cases h
  | o :: r, h => by
    unfold opsE at h
    by_cases h1 : hasO Li Di o
    · rw [if_pos h1] at h
      obtain ⟨h2, h3⟩ := opsE_ok r h
      exact ⟨fun x hx => by
        rcases List.mem_cons.1 hx with rfl | hx
        · exact h1
        · exact h2 x hx, h3⟩
    · rw [if_neg h1] at h; cases h
theorem wr_part {p : Pz} (h : wrM p.k p.t.size p.n1 p.f1 p.n2 p.f2 = 0) : okH (hdP p.pt false) ∧ 0 ≤ p.k ∧ p.k ≤ 2 := by
  have h1 := wr_ok false h
  refine ⟨?_, h1.2.1, h1.2.2.1⟩
  have e : hdP p.pt false = ⟨false, p.k.toNat, ((p.t.size : Nat) : Int).toNat, L p.n1 p.f1, L p.n2 p.f2⟩ := by
    unfold hdP Pz.pt
    simp only [Array.length_toList, Int.toNat_natCast]
    rfl
  rw [e]
  exact h1.1
theorem ptE_ok {p : Pz} (h : ptE p = 0) : wrM p.k p.t.size p.n1 p.f1 p.n2 p.f2 = 0 ∧ (p.k ≠ 0 → opsE (lis p.pt) (dis p.pt) p.pt.ops = 0) := by
  unfold ptE at h
  by_cases h1 : wrM p.k p.t.size p.n1 p.f1 p.n2 p.f2 = 0
  · rw [if_neg (by omega)] at h
    refine ⟨h1, fun hk => ?_⟩
    rw [if_neg hk] at h
    exact h
  · rw [if_pos h1] at h; exact absurd h h1
theorem part_okP {b : List UInt8} {p : Pz} (h : (ptT b p).1 = 0) (he : ptE p = 0) : okP b p.pt ∧ (ptT b p).2 = b ++ ptO b p.pt := by
  obtain ⟨h1, h2⟩ := ptE_ok he
  obtain ⟨h3, h4, h5⟩ := wr_part h1
  unfold ptT at h ⊢
  by_cases c1 : p.k < 0 ∨ 2 < p.k ∨ (p.k = 0 ∧ 65535 < p.t.size)
  · rw [if_pos c1] at h; cases h
  · rw [if_neg c1] at h ⊢
    by_cases c2 : p.k = 0
    · rw [if_pos c2]
      have e : p.pt.kind = 0 := by show p.k.toNat = 0; omega
      refine ⟨⟨h3, fun hk => absurd e hk⟩, ?_⟩
      unfold ptO; rw [if_pos e]; rfl
    · rw [if_neg c2] at h ⊢
      have e : p.pt.kind ≠ 0 := by show p.k.toNat ≠ 0; omega
      obtain ⟨o1, o2⟩ := opsT_ok p.os b h
      obtain ⟨o3, o4⟩ := opsE_ok _ (h2 c2)
      refine ⟨⟨h3, fun _ => ⟨o1, o3, o4⟩⟩, ?_⟩
      unfold ptO; rw [if_neg e]; exact o2
theorem parts_ok : ∀ (l : List Pz) (b : List UInt8), (ptsT b l).1 = 0 → ptsE l = 0 → okPs b (l.map Pz.pt) ∧ (ptsT b l).2 = b ++ ptsO b (l.map Pz.pt)
  | [], b, _, _ => ⟨trivial, (List.append_nil b).symm⟩
  | p :: r, b, h, he => by
    simp only [ptsT] at h ⊢
    rw [ptsE_cons] at he
    by_cases h1 : (ptT b p).1 = 0
    · rw [if_pos h1] at h ⊢
      by_cases h2 : ptE p = 0
      · rw [if_pos h2] at he
        obtain ⟨h3, h4⟩ := part_okP h1 h2
        obtain ⟨h5, h6⟩ := parts_ok r _ h he
        refine ⟨⟨h3, by rw [← h4]; exact h5⟩, ?_⟩
        rw [h6, h4, List.map_cons, ptsO, List.append_assoc]
      · rw [if_neg h2] at he; exact absurd he h2
    · rw [if_neg h1] at h; exact absurd h h1

/-- How many bits are written, at most. -/
theorem outM_bl {h : Hd} (ok : okH h) (z : Nat) : bl (outM h z) ≤ 1400 := by
  unfold outM
  rw [bl_append]
  have h0 : bl [(h.fin.toNat, 1), (h.kind, 2)] = 3 := rfl
  rw [h0]
  by_cases h1 : h.kind = 0
  · rw [if_pos h1]; simp only [bl, padZ]; omega
  · rw [if_neg h1]
    by_cases h2 : h.kind = 1
    · rw [if_pos h2]; simp only [bl]; omega
    · rw [if_neg h2, outD_bl]
      have := ok.k
      have := ok.l (by omega)
      omega
theorem encO_bl {Li Di : List Nat} (kL : okL Li) (kD : okL Di) (o : Opx) : bl (encO Li Di o) ≤ 48 := by
  unfold encO
  by_cases h : o.n = 0
  · rw [if_pos h]
    have := kL.h15 o.x.toNat
    simp only [bl, sy]; omega
  · rw [if_neg h]
    have h1 := kL.h15 (257 + lS o.n)
    have h2 := kD.h15 (dS o.d)
    have h3 := lb_le (lS_le o.n)
    have h4 := fb2_le (k := dS o.d) (by have := dS_le o.d; omega)
    simp only [bl, sy]; omega
/-- So many bits at most: of ops and their end; of a part; of parts. -/
def opsB (os : List Opx) : Nat := 48 * os.length + 15
def ptB (p : Pz) : Nat := 1400 + 8 * p.t.size + opsB p.pt.ops
def ptsB : List Pz → Nat
  | [] => 0
  | p :: r => ptB p + ptsB r
theorem encOs_bl {Li Di : List Nat} (kL : okL Li) (kD : okL Di) : ∀ os : List Opx, bl (encOs Li Di os) ≤ opsB os
  | [] => by have := kL.h15 256; unfold opsB encOs; simp only [bl, sy, List.length_nil]; omega
  | o :: r => by
    have h1 := encO_bl kL kD o
    have h2 := encOs_bl kL kD r
    unfold opsB at h2 ⊢
    unfold encOs
    rw [bl_append, List.length_cons]
    omega
theorem encP_bl {b : List UInt8} {p : Pz} (ok : okP b p.pt) (fin : Bool) (z : Nat) : bl (encP p.pt fin z) ≤ ptB p := by
  unfold encP ptB
  have h1 := outM_bl (okH_fin fin ok.1) z
  rw [bl_append]
  unfold bodP
  by_cases h : p.pt.kind = 0
  · rw [if_pos h, bl_text]
    have : p.pt.text.length = p.t.size := Array.length_toList
    rw [this]
    unfold opsB
    omega
  · rw [if_neg h]
    obtain ⟨k1, k2⟩ := part_ok ok h
    have := encOs_bl k1 k2 p.pt.ops
    omega
/-- The empty list's and the others' text. -/
theorem textM_nil : textM [] = (17, []) := rfl
theorem textM_cons {l : List Pz} (h : l ≠ []) : textM l = if (ptsT [] l).1 = 0 then ptsT [] l else ((ptsT [] l).1, []) := if_neg h
/-- What Encode answers: what is wrong. -/
def encE (l : List Pz) : Int := if (textM l).1 ≠ 0 then (textM l).1 else ptsE l
/-- Bytes that hold bits and are no more than they must be. -/
def holds (S : ByteArray) (l : List (Nat × Nat)) : Prop := num S.data.toList = bn l ∧ S.size = (bl l + 7) / 8
theorem holds_inj {S T : ByteArray} {l : List (Nat × Nat)} (h : holds S l) (k : holds T l) : S = T := by
  have e : S.data.toList = T.data.toList := num_inj _ _ (by rw [Array.length_toList, Array.length_toList]; exact h.2.trans k.2.symm) (h.1.trans k.1.symm)
  cases S with | mk a => cases T with | mk b => exact congrArg ByteArray.mk (Array.toList_inj.1 e)
/-- All that is inflated of it. -/
theorem all_of {S : ByteArray} {l : List Pz} (hn : l ≠ []) (h : (ptsT [] l).1 = 0) (he : ptsE l = 0) (hS : holds S (encPs (l.map Pz.pt) 0)) :
    (allM (num S.data.toList) (8 * S.size) 0 [] 0).1 = 0 ∧ (allM (num S.data.toList) (8 * S.size) 0 [] 0).2.1.length = l.length ∧ (allM (num S.data.toList) (8 * S.size) 0 [] 0).2.2.1 = bl (encPs (l.map Pz.pt) 0) ∧ (allM (num S.data.toList) (8 * S.size) 0 [] 0).2.2.2 = (ptsT [] l).2 := by
  obtain ⟨h1, h2⟩ := parts_ok l [] h he
  have hf := encPs_fits _ [] 0 h1
  have h3 := all_enc (N := num S.data.toList) (M := 8 * S.size) (l.map Pz.pt) 0 [] 0 (by simpa using hn) h1 (by rw [hS.1, Nat.pow_zero, Nat.div_one]; exact Nat.mod_eq_of_lt (bn_lt _ hf)) (by rw [hS.2]; omega)
  refine ⟨h3.1, by rw [h3.2.1, List.length_map], by rw [h3.2.2.1, Nat.zero_add], by rw [h3.2.2.2, h2, List.nil_append]⟩
end Go.Proofs.YtnkninjdpgpkmaaGreatDoor.Gp
namespace Go.Proofs.YtnkninjdpgpkmaaGreatDoor.Hm
open Go.Proofs.YtnkninjdpgpkmaaGreatDoor.Gm Go.Proofs.YtnkninjdpgpkmaaGreatDoor.Ga Go.Proofs.YtnkninjdpgpkmaaGreatDoor.Gr Go.Proofs.YtnkninjdpgpkmaaGreatDoor.Gp

theorem run_le {l : List UInt8} {a : Nat} (ha : a ≤ l.length) (d : Nat) : run l a d ≤ min 258 (l.length - a) := by
  obtain ⟨h1, h2, _⟩ := run_facts ha d
  omega
theorem run_zero {l : List UInt8} {a d : Nat} (h : l[a]? ≠ l[a - d]?) : run l a d = 0 := by
  unfold run
  exact runF_stop (fun e => h (by simpa using e.2.2))
theorem best_zero (l : List UInt8) (a : Nat) : best l a 0 = (0, 0) := rfl
theorem best_next {l : List UInt8} {a k : Nat} (h : (best l a k).1 < run l a (k + 1)) : best l a (k + 1) = (run l a (k + 1), k + 1) := by rw [best, if_pos h]
theorem best_stay {l : List UInt8} {a k : Nat} (h : ¬ (best l a k).1 < run l a (k + 1)) : best l a (k + 1) = best l a k := by rw [best, if_neg h]
/-- Distances that give nothing longer. -/
theorem best_same {l : List UInt8} {a d : Nat} : ∀ k, d ≤ k → (∀ e, d < e → e ≤ k → run l a e ≤ (best l a d).1) → best l a k = best l a d
  | 0, hk, _ => by rw [show d = 0 by omega]
  | k + 1, hk, h => by
    by_cases hd : d = k + 1
    · rw [hd]
    · have ih := best_same k (by omega) (fun e h1 h2 => h e h1 (by omega))
      rw [best_stay (by rw [ih]; have := h (k + 1) (by omega) (Nat.le_refl _); omega), ih]
theorem best_lt {l : List UInt8} {a : Nat} (ha : a ≤ l.length) (k : Nat) : (best l a k).1 ≤ min 258 (l.length - a) := by
  obtain ⟨h1, h2, _⟩ := best_facts ha k
  omega
/-- How far ahead the next equal byte is; 0: there is none within 256. -/
structure isBk (l : List UInt8) (j v : Nat) : Prop where
  no : v = 0 → ∀ d, 1 ≤ d → d ≤ 256 → d ≤ j → l[j - d]? ≠ l[j]?
  yes : 1 ≤ v → v ≤ 256 ∧ v ≤ j ∧ l[j - v]? = l[j]?
  least : ∀ d, 1 ≤ d → d < v → l[j - d]? ≠ l[j]?
/-- The place behind the last byte c of the first j; 0: there is none. -/
structure isBe (l : List UInt8) (j : Nat) (c : UInt8) (v : Nat) : Prop where
  le : v ≤ j
  at' : 1 ≤ v → l[v - 1]? = some c
  past : ∀ i, v ≤ i → i < j → l[i]? ≠ some c
theorem isBe_zero (l : List UInt8) (c : UInt8) : isBe l 0 c 0 := ⟨Nat.le_refl _, fun h => absurd h (by omega), fun i _ h => absurd h (by omega)⟩
theorem isBe_hit {l : List UInt8} {j : Nat} {c : UInt8} (h : l[j]? = some c) : isBe l (j + 1) c (j + 1) :=
  ⟨Nat.le_refl _, fun _ => by rw [Nat.add_sub_cancel]; exact h, fun i h1 h2 => absurd h1 (by omega)⟩
theorem isBe_miss {l : List UInt8} {j v : Nat} {c : UInt8} (h : isBe l j c v) (hc : l[j]? ≠ some c) : isBe l (j + 1) c v :=
  ⟨Nat.le_trans h.le (Nat.le_succ _), h.at', fun i h1 h2 => by
    by_cases hi : i = j
    · rw [hi]; exact hc
    · exact h.past i h1 (by omega)⟩
theorem isBk_of {l : List UInt8} {j v : Nat} {c : UInt8} (hc : l[j]? = some c) (h : isBe l j c v) : isBk l j (if 0 < v ∧ j + 1 - v ≤ 256 then j + 1 - v else 0) := by
  have hle := h.le
  by_cases h0 : 0 < v ∧ j + 1 - v ≤ 256
  · rw [if_pos h0]
    refine ⟨fun e => by omega, fun _ => ⟨h0.2, by omega, ?_⟩, fun d h1 h2 => ?_⟩
    · rw [show j - (j + 1 - v) = v - 1 by omega, h.at' h0.1, hc]
    · rw [hc]; exact h.past (j - d) (by omega) (by omega)
  · rw [if_neg h0]
    refine ⟨fun _ d h1 h2 h3 => ?_, fun e => absurd e (by omega), fun d h1 h2 => absurd h2 (by omega)⟩
    rw [hc]
    exact h.past (j - d) (by omega) (by omega)
/-- On the way: the first d distances were looked at; the byte d ahead is equal. -/
structure way (l : List UInt8) (a d : Nat) : Prop where
  hd : d ≤ 256 ∧ d ≤ a
  he : l[a - d]? = l[a]?
  ha : a < l.length
theorem way_start {l : List UInt8} {a : Nat} (h : a < l.length) : way l a 0 := ⟨⟨by omega, by omega⟩, by rw [Nat.sub_zero], h⟩
theorem way_skip {l : List UInt8} {a d v e : Nat} (h : way l a d) (k : isBk l (a - d) v) (h1 : d < e) (h2 : e < d + v) : run l a e = 0 := by
  have hv := (k.yes (by omega)).2.1
  refine run_zero (fun he => k.least (e - d) (by omega) (by omega) ?_)
  rw [show a - d - (e - d) = a - e by omega, h.he]
  exact he.symm
theorem way_none {l : List UInt8} {a d : Nat} (h : way l a d) (k : isBk l (a - d) 0) : best l a (min 256 a) = best l a d := by
  have hd := h.hd
  refine best_same _ (by omega) (fun e h1 h2 => ?_)
  rw [run_zero (fun he => k.no rfl (e - d) (by omega) (by omega) (by omega) ?_)]
  · exact Nat.zero_le _
  · rw [show a - d - (e - d) = a - e by omega, h.he]
    exact he.symm
theorem way_full {l : List UInt8} {a d : Nat} (h : way l a d) (hm : min 258 (l.length - a) ≤ (best l a d).1) : best l a (min 256 a) = best l a d := by
  have hd := h.hd
  exact best_same _ (by omega) (fun e _ _ => Nat.le_trans (run_le (Nat.le_of_lt h.ha) e) hm)
theorem way_far {l : List UInt8} {a d v : Nat} (h : way l a d) (k : isBk l (a - d) v) (hv : 256 < d + v) : best l a (min 256 a) = best l a d := by
  have hd := h.hd
  refine best_same _ (by omega) (fun e h1 h2 => ?_)
  rw [way_skip h k h1 (by omega)]
  exact Nat.zero_le _
theorem way_next {l : List UInt8} {a d v : Nat} (h : way l a d) (k : isBk l (a - d) v) (h0 : 1 ≤ v) (hv : d + v ≤ 256) : way l a (d + v) ∧ best l a (d + v) = if (best l a d).1 < run l a (d + v) then (run l a (d + v), d + v) else best l a d := by
  obtain ⟨k1, k2, k3⟩ := k.yes h0
  have hd := h.hd
  refine ⟨⟨⟨hv, by omega⟩, ?_, h.ha⟩, ?_⟩
  · rw [show a - (d + v) = a - d - v by omega, k3, h.he]
  · have e1 : best l a (d + v - 1) = best l a d := best_same _ (by omega) (fun e h1 h2 => by rw [way_skip h k h1 (by omega)]; exact Nat.zero_le _)
    obtain ⟨m, hm⟩ : ∃ m, d + v = m + 1 := ⟨d + v - 1, by omega⟩
    rw [show d + v - 1 = m by omega] at e1
    rw [hm]
    by_cases hb : (best l a d).1 < run l a (m + 1)
    · rw [if_pos hb, best_next (by rw [e1]; exact hb)]
    · rw [if_neg hb, best_stay (by rw [e1]; exact hb), e1]
/-- What is found. -/
def bo (x : UInt8) (p : Nat × Nat) : Opx := if 3 ≤ p.1 then ⟨0, p.1, p.2⟩ else ⟨x, 0, 0⟩
theorem bo_n (x : UInt8) (p : Nat × Nat) : (bo x p).n = if 3 ≤ p.1 then p.1 else 0 := by unfold bo; split <;> rfl
theorem opsM_at {l : List UInt8} {a : Nat} (h : a < l.length) : opsM l a = bo (l.getD a 0) (best l a (min 256 a)) :: opsM l (a + (if (bo (l.getD a 0) (best l a (min 256 a))).n = 0 then 1 else (bo (l.getD a 0) (best l a (min 256 a))).n)) := by
  by_cases h3 : 3 ≤ (best l a (min 256 a)).1
  · rw [opsM_copy h h3, bo_n, if_pos h3, if_neg (by omega)]
    unfold bo; rw [if_pos h3]
  · rw [opsM_lit h h3, bo_n, if_neg h3, if_pos rfl]
    unfold bo; rw [if_neg h3]
/-- An op of the program's own, as it comes. -/
def _root_.Go.Proofs.YtnkninjdpgpkmaaGreatDoor.Gm.Opx.int (o : Opx) : Opi := ⟨o.x, (o.n : Int), (o.d : Int)⟩
theorem int_nat (o : Opx) : o.int.nat = o := by
  cases o with | mk x n d => unfold Opx.int Opi.nat; simp
theorem map_int_nat (l : List Opx) : (l.map Opx.int).map Opi.nat = l := by
  rw [List.map_map]
  have : Opi.nat ∘ Opx.int = id := funext int_nat
  rw [this, List.map_id]
end Go.Proofs.YtnkninjdpgpkmaaGreatDoor.Hm
