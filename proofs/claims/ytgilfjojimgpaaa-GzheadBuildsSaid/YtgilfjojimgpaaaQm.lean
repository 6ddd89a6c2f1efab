/-
  The head of an archive, in lists of bytes: when it is right, how it is laid down, how it is read; there and back.
  Conditions: as each theorem says. Nothing of the program is named here.
-/
import Derived.Test.YtgilfjojimgpaaaBm
namespace Go.Proofs.Ytgilfjojimgpaaa.Qm
open Go.Proofs.Ytgilfjojimgpaaa.Vm Go.Proofs.Ytgilfjojimgpaaa.Bm

/-- A head: time, extra, name, note, level, system, text, sum, flags. -/
structure Hq where
  t : Int
  e : List UInt8
  n : List UInt8
  c : List UInt8
  v : Int
  o : Int
  x : Bool
  m : Bool
  f : Int
def zQ : Hq := ⟨0, [], [], [], 0, 0, false, false, 0⟩
def rightQ (h : Hq) : Prop := (0 ≤ h.t ∧ h.t ≤ 4294967295) ∧ (0 ≤ h.v ∧ h.v ≤ 255) ∧ (0 ≤ h.o ∧ h.o ≤ 255) ∧ (0 ≤ h.f ∧ h.f ≤ 28 ∧ h.f % 4 = 0) ∧ (h.e.length ≤ 65535 ∧ (¬ h.f / 4 % 2 = 1 → h.e = [])) ∧ ((0 : UInt8) ∉ h.n ∧ (¬ h.f / 8 % 2 = 1 → h.n = [])) ∧ ((0 : UInt8) ∉ h.c ∧ (¬ h.f / 16 % 2 = 1 → h.c = []))
def flQ (h : Hq) : Nat := h.f.toNat + h.x.toNat + 2 * h.m.toNat
def hdQ (h : Hq) : List UInt8 := [31, 139, 8] ++ (le 1 (flQ h) ++ (le 4 h.t.toNat ++ (le 1 h.v.toNat ++ le 1 h.o.toNat)))
def exQ (h : Hq) : List UInt8 := if h.f / 4 % 2 = 1 then le 2 h.e.length ++ h.e else []
def naQ (h : Hq) : List UInt8 := if h.f / 8 % 2 = 1 then h.n ++ [0] else []
def noQ (h : Hq) : List UInt8 := if h.f / 16 % 2 = 1 then h.c ++ [0] else []
def boQ (h : Hq) : List UInt8 := hdQ h ++ (exQ h ++ (naQ h ++ noQ h))
def smQ (cr : List UInt8 → Nat) (h : Hq) : List UInt8 := if h.m = true then le 2 (cr (boQ h) % 65536) else []
/-- All of it. -/
def encQ (cr : List UInt8 → Nat) (h : Hq) : List UInt8 := boQ h ++ smQ cr h

/-- A text up to a byte 0, and what stands behind that. -/
def endQ : List UInt8 → Option (List UInt8 × List UInt8)
  | [] => none
  | b :: r => if b = 0 then some ([], r) else (endQ r).map (fun p => (b :: p.1, p.2))
def p1 (f : Nat) (r : List UInt8) : Option (List UInt8 × List UInt8) :=
  if f / 4 % 2 = 1 then (if r.length < 2 ∨ r.length - 2 < num (r.take 2) then none else some ((r.drop 2).take (num (r.take 2)), r.drop (2 + num (r.take 2)))) else some ([], r)
def p2 (b f : Nat) (r : List UInt8) : Option (List UInt8 × List UInt8) := if f / b % 2 = 1 then endQ r else some ([], r)
def heQ (f : Nat) (r e n c : List UInt8) : Hq := ⟨(num ((r.drop 4).take 4) : Nat), e, n, c, ((r.getD 8 0).toNat : Nat), ((r.getD 9 0).toNat : Nat), decide (f % 2 = 1), decide (f / 2 % 2 = 1), ((f / 4 * 4 : Nat) : Int)⟩
/-- The head that the bytes r begin with, and how many bytes it has; or what is wrong. -/
def prsQ (cr : List UInt8 → Nat) (r : List UInt8) : Int × Hq × Nat :=
  if r.length < 10 then (2, zQ, 0)
  else if r.take 3 ≠ [31, 139, 8] then (12, zQ, 0)
  else if 32 ≤ (r.getD 3 0).toNat then (13, zQ, 0)
  else match p1 (r.getD 3 0).toNat (r.drop 10) with
    | none => (2, zQ, 0)
    | some (e, r1) => match p2 8 (r.getD 3 0).toNat r1 with
      | none => (2, zQ, 0)
      | some (n, r2) => match p2 16 (r.getD 3 0).toNat r2 with
        | none => (2, zQ, 0)
        | some (c, r3) =>
          if (r.getD 3 0).toNat / 2 % 2 = 1 then
            (if r3.length < 2 then (2, zQ, 0) else if num (r3.take 2) ≠ cr (r.take (r.length - r3.length)) % 65536 then (5, zQ, 0) else (0, heQ (r.getD 3 0).toNat r e n c, r.length - r3.length + 2))
          else (0, heQ (r.getD 3 0).toNat r e n c, r.length - r3.length)

theorem num_le : ∀ k n, num (le k n) = n % 256 ^ k
  | 0, n => by simp [le, num, Nat.mod_one]
  | k + 1, n => by
    have h := num_le k (n / 256)
    show (UInt8.ofNat (n % 256)).toNat + 256 * num (le k (n / 256)) = _
    have e : 256 ^ (k + 1) = 256 * 256 ^ k := by rw [Nat.pow_succ, Nat.mul_comm]
    have e2 : (UInt8.ofNat (n % 256)).toNat = n % 256 := by rw [UInt8.toNat_ofNat']; omega
    rw [h, e2, e, Nat.mod_mul]
theorem le_num : ∀ (l : List UInt8) (k : Nat), l.length = k → le k (num l) = l := fun l k h => by
  refine num_inj _ _ (by rw [le_length, h]) ?_
  rw [num_le, Nat.mod_eq_of_lt]
  have := num_lt l
  rw [h, Nat.pow_mul] at this
  exact this
theorem hd_length (h : Hq) : (hdQ h).length = 10 := by
  unfold hdQ
  simp only [List.length_append, le_length]
  rfl
theorem endQ_zero : ∀ (n X : List UInt8), (0 : UInt8) ∉ n → endQ (n ++ 0 :: X) = some (n, X)
  | [], X, _ => by simp [endQ]
  | b :: n, X, h => by
    have h0 : ¬ b = 0 := fun e => h (by rw [e]; simp)
    have h1 := endQ_zero n X (fun e => h (List.mem_cons_of_mem _ e))
    simp [endQ, h0, h1]
theorem endQ_none : ∀ n : List UInt8, (0 : UInt8) ∉ n → endQ n = none
  | [], _ => rfl
  | b :: n, h => by
    have h0 : ¬ b = 0 := fun e => h (by rw [e]; simp)
    have h1 := endQ_none n (fun e => h (List.mem_cons_of_mem _ e))
    simp [endQ, h0, h1]
theorem endQ_some : ∀ (r t s : List UInt8), endQ r = some (t, s) → r = t ++ 0 :: s ∧ (0 : UInt8) ∉ t
  | [], t, s, h => by cases h
  | b :: r, t, s, h => by
    by_cases h0 : b = 0
    · subst h0
      simp [endQ] at h
      obtain ⟨rfl, rfl⟩ := h
      exact ⟨rfl, by simp⟩
    · simp only [endQ, if_neg h0] at h
      obtain ⟨⟨t', s'⟩, h1, h2⟩ := Option.map_eq_some_iff.1 h
      injection h2 with h2 h3
      obtain ⟨e1, e2⟩ := endQ_some r t' s' h1
      refine ⟨?_, ?_⟩
      · rw [← h2, e1, ← h3]; rfl
      · rw [← h2]
        intro hm
        rcases List.mem_cons.1 hm with e | e
        · exact h0 e.symm
        · exact e2 e
section
variable {h : Hq} {f : Nat}
/-- The flags that are laid down tell what the head's flags tell. -/
theorem fl_of (hr : rightQ h) : flQ h < 32 ∧ (flQ h / 4 % 2 = 1 ↔ h.f / 4 % 2 = 1) ∧ (flQ h / 8 % 2 = 1 ↔ h.f / 8 % 2 = 1) ∧ (flQ h / 16 % 2 = 1 ↔ h.f / 16 % 2 = 1) ∧ decide (flQ h % 2 = 1) = h.x ∧ decide (flQ h / 2 % 2 = 1) = h.m ∧ ((flQ h / 4 * 4 : Nat) : Int) = h.f := by
  obtain ⟨_, _, _, ⟨f0, f1, f2⟩, _⟩ := hr
  unfold flQ
  cases hx : h.x <;> cases hm : h.m <;> simp only [Bool.toNat_true, Bool.toNat_false, decide_eq_true_eq, decide_eq_false_iff_not] <;> refine ⟨?_, ?_, ?_, ?_, ?_, ?_, ?_⟩ <;> omega
theorem p1_enc (hr : rightQ h) (hf : f / 4 % 2 = 1 ↔ h.f / 4 % 2 = 1) (X : List UInt8) : p1 f (exQ h ++ X) = some (h.e, X) := by
  obtain ⟨_, _, _, _, ⟨e1, e2⟩, _⟩ := hr
  unfold p1 exQ
  by_cases h4 : h.f / 4 % 2 = 1
  · rw [if_pos (hf.2 h4), if_pos h4]
    have hl : (le 2 h.e.length).length = 2 := le_length _ _
    have ht : (le 2 h.e.length ++ h.e ++ X).take 2 = le 2 h.e.length := by rw [List.append_assoc, List.take_append_of_le_length (by rw [hl]; exact Nat.le_refl _), List.take_of_length_le (by rw [hl]; exact Nat.le_refl _)]
    have hn : num (le 2 h.e.length) = h.e.length := by rw [num_le]; exact Nat.mod_eq_of_lt (by omega)
    rw [ht, hn, if_neg (by simp only [List.length_append, hl]; omega)]
    have hd : (le 2 h.e.length ++ h.e ++ X).drop 2 = h.e ++ X := by rw [List.append_assoc, List.drop_append_of_le_length (by rw [hl]; exact Nat.le_refl _), List.drop_of_length_le (by rw [hl]; exact Nat.le_refl _)]; rfl
    rw [← List.drop_drop, hd, List.take_left' rfl, List.drop_left' rfl]
  · rw [if_neg (fun e => h4 (hf.1 e)), if_neg h4, e2 h4]; rfl
theorem p1_cut (hr : rightQ h) (hf : f / 4 % 2 = 1 ↔ h.f / 4 % 2 = 1) {X : List UInt8} {j : Nat} (hj : j < (exQ h).length) : p1 f ((exQ h ++ X).take j) = none := by
  obtain ⟨_, _, _, _, ⟨e1, e2⟩, _⟩ := hr
  unfold exQ at hj ⊢
  by_cases h4 : h.f / 4 % 2 = 1
  · rw [if_pos h4] at hj ⊢
    unfold p1
    rw [if_pos (hf.2 h4), if_pos]
    have hl : (le 2 h.e.length).length = 2 := le_length _ _
    rw [List.length_append, hl] at hj
    have hL : ((le 2 h.e.length ++ h.e ++ X).take j).length = j := by simp only [List.length_take, List.length_append, hl]; omega
    rw [hL]
    by_cases h2 : j < 2
    · exact .inl h2
    · refine .inr ?_
      rw [List.take_take, Nat.min_eq_left (by omega), List.append_assoc, List.take_append_of_le_length (by rw [hl]; exact Nat.le_refl _), List.take_of_length_le (by rw [hl]; exact Nat.le_refl _), num_le, Nat.mod_eq_of_lt (by omega)]
      omega
  · rw [if_neg h4] at hj; exact absurd hj (Nat.not_lt_zero _)
theorem p2_enc {b : Nat} {n X : List UInt8} (h0 : (0 : UInt8) ∉ n) {q : Prop} [Decidable q] (hq : ¬ q → n = []) (hf : f / b % 2 = 1 ↔ q) : p2 b f ((if q then n ++ [0] else []) ++ X) = some (n, X) := by
  unfold p2
  by_cases h4 : q
  · rw [if_pos (hf.2 h4), if_pos h4, List.append_assoc]
    exact endQ_zero n X h0
  · rw [if_neg (fun e => h4 (hf.1 e)), if_neg h4, hq h4]; rfl
theorem p2_cut {b j : Nat} {n X : List UInt8} (h0 : (0 : UInt8) ∉ n) {q : Prop} [Decidable q] (hf : f / b % 2 = 1 ↔ q) (hj : j < (if q then n ++ [0] else [] : List UInt8).length) : p2 b f (((if q then n ++ [0] else []) ++ X).take j) = none := by
  by_cases h4 : q
  · rw [if_pos h4] at hj ⊢
    unfold p2
    rw [if_pos (hf.2 h4)]
    rw [List.length_append] at hj
    have hj' : j ≤ n.length := by have : [(0 : UInt8)].length = 1 := rfl; omega
    refine endQ_none _ (fun e => h0 ?_)
    rw [List.append_assoc, List.take_append_of_le_length hj'] at e
    exact List.mem_of_mem_take e
  · rw [if_neg h4] at hj; exact absurd hj (Nat.not_lt_zero _)
end
/-- The first ten bytes of what is laid down. -/
theorem hd_get (h : Hq) (X : List UInt8) : (hdQ h ++ X).take 3 = [31, 139, 8] ∧ (hdQ h ++ X).getD 3 0 = UInt8.ofNat (flQ h % 256) ∧ ((hdQ h ++ X).drop 4).take 4 = le 4 h.t.toNat ∧ (hdQ h ++ X).getD 8 0 = UInt8.ofNat (h.v.toNat % 256) ∧ (hdQ h ++ X).getD 9 0 = UInt8.ofNat (h.o.toNat % 256) ∧ (hdQ h ++ X).drop 10 = X := by
  refine ⟨rfl, rfl, rfl, rfl, rfl, ?_⟩
  rw [List.drop_left' (hd_length h)]
theorem he_of {h : Hq} (hr : rightQ h) (X : List UInt8) : heQ (flQ h) (hdQ h ++ X) h.e h.n h.c = h := by
  obtain ⟨_, _, _, _, k1, k2, k3⟩ := fl_of hr
  obtain ⟨_, _, g1, g2, g3, _⟩ := hd_get h X
  obtain ⟨⟨t0, t1⟩, ⟨v0, v1⟩, ⟨o0, o1⟩, _⟩ := hr
  unfold heQ
  rw [g1, g2, g3, k1, k2, k3, num_le, UInt8.toNat_ofNat', UInt8.toNat_ofNat']
  have a1 : ((h.t.toNat % 256 ^ 4 : Nat) : Int) = h.t := by rw [Nat.mod_eq_of_lt (by omega)]; omega
  have a2 : ((h.v.toNat % 256 % 2 ^ 8 : Nat) : Int) = h.v := by omega
  have a3 : ((h.o.toNat % 256 % 2 ^ 8 : Nat) : Int) = h.o := by omega
  rw [a1, a2, a3]
/-- There and back. -/
theorem prs_enc {h : Hq} (cr : List UInt8 → Nat) (hr : rightQ h) (C : List UInt8) : prsQ cr (encQ cr h ++ C) = (0, h, (encQ cr h).length) := by
  obtain ⟨k0, k4, k8, k16, k1, k2, k3⟩ := fl_of hr
  have hsp : encQ cr h ++ C = hdQ h ++ (exQ h ++ (naQ h ++ (noQ h ++ (smQ cr h ++ C)))) := by unfold encQ boQ; simp only [List.append_assoc]
  have hbo : encQ cr h ++ C = boQ h ++ (smQ cr h ++ C) := by unfold encQ; rw [List.append_assoc]
  obtain ⟨g0, g1, _, _, _, g5⟩ := hd_get h (exQ h ++ (naQ h ++ (noQ h ++ (smQ cr h ++ C))))
  have hfl : ((encQ cr h ++ C).getD 3 0).toNat = flQ h := by rw [hsp, g1, UInt8.toNat_ofNat']; omega
  have hlen : (encQ cr h ++ C).length = (boQ h).length + (smQ cr h ++ C).length := by rw [hbo, List.length_append]
  have h10 : 10 ≤ (encQ cr h ++ C).length := by rw [hsp, List.length_append, hd_length]; omega
  have hdr : (encQ cr h ++ C).drop 10 = exQ h ++ (naQ h ++ (noQ h ++ (smQ cr h ++ C))) := by rw [hsp, g5]
  have htk : (encQ cr h ++ C).take 3 = [31, 139, 8] := by rw [hsp]; exact g0
  unfold prsQ
  rw [if_neg (by omega), if_neg (fun e => e htk), hfl, if_neg (by omega), hdr, p1_enc hr k4]
  dsimp only
  rw [show naQ h = (if h.f / 8 % 2 = 1 then h.n ++ [0] else []) from rfl, p2_enc hr.2.2.2.2.2.1.1 hr.2.2.2.2.2.1.2 k8]
  dsimp only
  rw [show noQ h = (if h.f / 16 % 2 = 1 then h.c ++ [0] else []) from rfl, p2_enc hr.2.2.2.2.2.2.1 hr.2.2.2.2.2.2.2 k16]
  dsimp only
  have hsub : (encQ cr h ++ C).length - (smQ cr h ++ C).length = (boQ h).length := by omega
  have hhe : heQ (flQ h) (encQ cr h ++ C) h.e h.n h.c = h := by rw [hsp]; exact he_of hr _
  have htb : (encQ cr h ++ C).take (boQ h).length = boQ h := by rw [hbo, List.take_left' rfl]
  rw [hsub, htb, hhe]
  by_cases hm : h.m = true
  · have hs : smQ cr h = le 2 (cr (boQ h) % 65536) := if_pos hm
    have h2 : (smQ cr h).length = 2 := by rw [hs, le_length]
    rw [if_pos (by rw [hm] at k2; exact of_decide_eq_true k2), if_neg (by rw [List.length_append]; omega)]
    have ht : (smQ cr h ++ C).take 2 = smQ cr h := by rw [← h2, List.take_left' rfl]
    rw [ht, hs, num_le, if_neg (fun e => e (by rw [Nat.mod_eq_of_lt (show cr (boQ h) % 65536 < 256 ^ 2 by omega)]))]
    unfold encQ
    rw [List.length_append, h2]
  · have hs : smQ cr h = [] := if_neg hm
    have hm' : h.m = false := by simpa using hm
    rw [if_neg (by rw [hm'] at k2; exact of_decide_eq_false k2)]
    unfold encQ
    rw [hs, List.append_nil]
theorem ex_len (h : Hq) : (exQ h).length ≤ (boQ h).length := by unfold boQ; simp only [List.length_append]; omega
theorem mid_take (a b : List UInt8) {k : Nat} (h : a.length ≤ k) : (a ++ b).take k = a ++ b.take (k - a.length) := by
  rw [List.take_append]
  rw [List.take_of_length_le h]
/-- Cut anywhere it ends too early. -/
theorem prs_cut {h : Hq} (cr : List UInt8 → Nat) (hr : rightQ h) {k : Nat} (hk : k < (encQ cr h).length) : (prsQ cr ((encQ cr h).take k)).1 = 2 := by
  obtain ⟨k0, k4, k8, k16, k1, k2, k3⟩ := fl_of hr
  have hlk : ((encQ cr h).take k).length = k := by rw [List.length_take]; omega
  by_cases hk10 : k < 10
  · unfold prsQ; rw [if_pos (by omega)]
  · have hsp : encQ cr h = hdQ h ++ (exQ h ++ (naQ h ++ (noQ h ++ smQ cr h))) := by unfold encQ boQ; simp only [List.append_assoc]
    have hel : (encQ cr h).length = 10 + ((exQ h).length + ((naQ h).length + ((noQ h).length + (smQ cr h).length))) := by rw [hsp]; simp only [List.length_append, hd_length]
    obtain ⟨j, hj⟩ : ∃ j, j = k - 10 := ⟨_, rfl⟩
    have htk : (encQ cr h).take k = hdQ h ++ (exQ h ++ (naQ h ++ (noQ h ++ smQ cr h))).take j := by
      rw [hsp, mid_take _ _ (by rw [hd_length]; omega), hd_length, hj]
    obtain ⟨g0, g1, _, _, _, g5⟩ := hd_get h ((exQ h ++ (naQ h ++ (noQ h ++ smQ cr h))).take j)
    have hfl : (((encQ cr h).take k).getD 3 0).toNat = flQ h := by rw [htk, g1, UInt8.toNat_ofNat']; omega
    have hdr : ((encQ cr h).take k).drop 10 = (exQ h ++ (naQ h ++ (noQ h ++ smQ cr h))).take j := by rw [htk, g5]
    have ht3 : ((encQ cr h).take k).take 3 = [31, 139, 8] := by rw [htk]; exact g0
    unfold prsQ
    rw [if_neg (by omega), if_neg (fun e => e ht3), hfl, if_neg (by omega), hdr]
    by_cases h1 : j < (exQ h).length
    · rw [p1_cut hr k4 h1]
    · rw [mid_take _ _ (by omega), p1_enc hr k4]
      dsimp only
      by_cases h2 : j - (exQ h).length < (naQ h).length
      · rw [show naQ h = (if h.f / 8 % 2 = 1 then h.n ++ [0] else []) from rfl, p2_cut hr.2.2.2.2.2.1.1 k8 h2]
      · rw [mid_take _ _ (by omega)]
        rw [show naQ h = (if h.f / 8 % 2 = 1 then h.n ++ [0] else []) from rfl, p2_enc hr.2.2.2.2.2.1.1 hr.2.2.2.2.2.1.2 k8]
        dsimp only
        rw [show (if h.f / 8 % 2 = 1 then h.n ++ [0] else []) = naQ h from rfl]
        by_cases h3 : j - (exQ h).length - (naQ h).length < (noQ h).length
        · rw [show noQ h = (if h.f / 16 % 2 = 1 then h.c ++ [0] else []) from rfl, p2_cut hr.2.2.2.2.2.2.1 k16 h3]
        · rw [mid_take _ _ (by omega)]
          rw [show noQ h = (if h.f / 16 % 2 = 1 then h.c ++ [0] else []) from rfl, p2_enc hr.2.2.2.2.2.2.1 hr.2.2.2.2.2.2.2 k16]
          dsimp only
          rw [show (if h.f / 16 % 2 = 1 then h.c ++ [0] else []) = noQ h from rfl]
          by_cases hm : h.m = true
          · have hs : (smQ cr h).length = 2 := by unfold smQ; rw [if_pos hm, le_length]
            rw [if_pos (by rw [hm] at k2; exact of_decide_eq_true k2), if_pos (by rw [List.length_take]; omega)]
          · have hs : (smQ cr h).length = 0 := by unfold smQ; rw [if_neg hm]; rfl
            omega
theorem p1_some {f : Nat} {r e r1 : List UInt8} (h : p1 f r = some (e, r1)) : r = (if f / 4 % 2 = 1 then le 2 e.length ++ e else []) ++ r1 ∧ e.length ≤ 65535 ∧ (¬ f / 4 % 2 = 1 → e = []) := by
  unfold p1 at h
  by_cases h4 : f / 4 % 2 = 1
  · rw [if_pos h4] at h ⊢
    by_cases h2 : r.length < 2 ∨ r.length - 2 < num (r.take 2)
    · rw [if_pos h2] at h; cases h
    · rw [if_neg h2] at h
      injection h with h
      injection h with e1 e2
      have hl2 : (r.take 2).length = 2 := by rw [List.length_take]; omega
      have hel : e.length = num (r.take 2) := by rw [← e1, List.length_take, List.length_drop]; omega
      have hn := num_lt (r.take 2)
      rw [hl2] at hn
      refine ⟨?_, by omega, fun x => absurd h4 x⟩
      rw [hel, le_num _ 2 hl2, ← e1, ← e2, ← List.drop_drop, List.append_assoc, List.take_append_drop, List.take_append_drop]
  · rw [if_neg h4] at h ⊢
    injection h with h
    injection h with e1 e2
    rw [← e1, ← e2]
    exact ⟨rfl, by simp, fun _ => rfl⟩
theorem p2_some {b f : Nat} {r e r1 : List UInt8} (h : p2 b f r = some (e, r1)) : r = (if f / b % 2 = 1 then e ++ [0] else []) ++ r1 ∧ (0 : UInt8) ∉ e ∧ (¬ f / b % 2 = 1 → e = []) := by
  unfold p2 at h
  by_cases h4 : f / b % 2 = 1
  · rw [if_pos h4] at h ⊢
    obtain ⟨h1, h2⟩ := endQ_some _ _ _ h
    exact ⟨by rw [h1, List.append_assoc]; rfl, h2, fun x => absurd h4 x⟩
  · rw [if_neg h4] at h ⊢
    injection h with h
    injection h with e1 e2
    rw [← e1, ← e2]
    exact ⟨rfl, by simp, fun _ => rfl⟩
theorem ten : ∀ r : List UInt8, ¬ r.length < 10 → ∃ a0 a1 a2 a3 a4 a5 a6 a7 a8 a9 X, r = a0 :: a1 :: a2 :: a3 :: a4 :: a5 :: a6 :: a7 :: a8 :: a9 :: X
  | a0 :: a1 :: a2 :: a3 :: a4 :: a5 :: a6 :: a7 :: a8 :: a9 :: X, _ => ⟨a0, a1, a2, a3, a4, a5, a6, a7, a8, a9, X, rfl⟩
  | [], h => absurd (by simp) h
  | [_], h => absurd (by simp) h
  | [_, _], h => absurd (by simp) h
  | [_, _, _], h => absurd (by simp) h
  | [_, _, _, _], h => absurd (by simp) h
  | [_, _, _, _, _], h => absurd (by simp) h
  | [_, _, _, _, _, _], h => absurd (by simp) h
  | [_, _, _, _, _, _, _], h => absurd (by simp) h
  | [_, _, _, _, _, _, _, _], h => absurd (by simp) h
  | [_, _, _, _, _, _, _, _, _], h => absurd (by simp) h
theorem le_one (x : UInt8) : le 1 x.toNat = [x] := by
  show [UInt8.ofNat (x.toNat % 256)] = [x]
  have := x.toNat_lt
  rw [Nat.mod_eq_of_lt (by omega), UInt8.ofNat_toNat]
theorem if_same {p q : Prop} [Decidable p] [Decidable q] {α : Type} (a b : α) (h : p ↔ q) : (if p then a else b) = if q then a else b := by
  by_cases hp : p
  · rw [if_pos hp, if_pos (h.1 hp)]
  · rw [if_neg hp, if_neg (fun e => hp (h.2 e))]
/-- Flags that were read. -/
theorem fl_read {F : Nat} (h : F < 32) : (((F / 4 * 4 : Nat) : Int) / 4 % 2 = 1 ↔ F / 4 % 2 = 1) ∧ (((F / 4 * 4 : Nat) : Int) / 8 % 2 = 1 ↔ F / 8 % 2 = 1) ∧ (((F / 4 * 4 : Nat) : Int) / 16 % 2 = 1 ↔ F / 16 % 2 = 1) ∧ 0 ≤ ((F / 4 * 4 : Nat) : Int) ∧ ((F / 4 * 4 : Nat) : Int) ≤ 28 ∧ ((F / 4 * 4 : Nat) : Int) % 4 = 0 := by
  refine ⟨?_, ?_, ?_, ?_, ?_, ?_⟩ <;> omega
/-- The head that was read, and what its ten bytes and its parts are. -/
theorem he_read {a0 a1 a2 a3 a4 a5 a6 a7 a8 a9 : UInt8} {X e n c r1 r2 r3 : List UInt8} (h3 : [a0, a1, a2] = [31, 139, 8]) (hF : a3.toNat < 32) (h1 : p1 a3.toNat X = some (e, r1)) (h2 : p2 8 a3.toNat r1 = some (n, r2)) (h4 : p2 16 a3.toNat r2 = some (c, r3)) :
    rightQ (heQ a3.toNat (a0 :: a1 :: a2 :: a3 :: a4 :: a5 :: a6 :: a7 :: a8 :: a9 :: X) e n c) ∧ boQ (heQ a3.toNat (a0 :: a1 :: a2 :: a3 :: a4 :: a5 :: a6 :: a7 :: a8 :: a9 :: X) e n c) ++ r3 = a0 :: a1 :: a2 :: a3 :: a4 :: a5 :: a6 :: a7 :: a8 :: a9 :: X := by
  obtain ⟨x1, x2, x3⟩ := p1_some h1
  obtain ⟨y1, y2, y3⟩ := p2_some h2
  obtain ⟨z1, z2, z3⟩ := p2_some h4
  obtain ⟨f1, f2, f3, f4, f5, f6⟩ := fl_read hF
  have hn4 := num_lt [a4, a5, a6, a7]
  have e8 := a8.toNat_lt
  have e9 := a9.toNat_lt
  obtain ⟨H, hH⟩ : ∃ H, H = heQ a3.toNat (a0 :: a1 :: a2 :: a3 :: a4 :: a5 :: a6 :: a7 :: a8 :: a9 :: X) e n c := ⟨_, rfl⟩
  have ht : H.t = ((num [a4, a5, a6, a7] : Nat) : Int) := by rw [hH]; rfl
  have hv : H.v = ((a8.toNat : Nat) : Int) := by rw [hH]; rfl
  have ho : H.o = ((a9.toNat : Nat) : Int) := by rw [hH]; rfl
  have hf : H.f = ((a3.toNat / 4 * 4 : Nat) : Int) := by rw [hH]; rfl
  have he : H.e = e := by rw [hH]; rfl
  have hn : H.n = n := by rw [hH]; rfl
  have hc : H.c = c := by rw [hH]; rfl
  have hx : H.x = decide (a3.toNat % 2 = 1) := by rw [hH]; rfl
  have hm : H.m = decide (a3.toNat / 2 % 2 = 1) := by rw [hH]; rfl
  rw [← hH]
  refine ⟨⟨⟨by rw [ht]; omega, by rw [ht]; have : num [a4, a5, a6, a7] < 2 ^ 32 := hn4; omega⟩, ⟨by rw [hv]; omega, by rw [hv]; omega⟩, ⟨by rw [ho]; omega, by rw [ho]; omega⟩, ⟨by rw [hf]; exact f4, by rw [hf]; exact f5, by rw [hf]; exact f6⟩, ⟨by rw [he]; exact x2, fun x => by rw [he]; exact x3 (fun y => x (by rw [hf]; exact f1.2 y))⟩, ⟨by rw [hn]; exact y2, fun x => by rw [hn]; exact y3 (fun y => x (by rw [hf]; exact f2.2 y))⟩, ⟨by rw [hc]; exact z2, fun x => by rw [hc]; exact z3 (fun y => x (by rw [hf]; exact f3.2 y))⟩⟩, ?_⟩
  have hfl : flQ H = a3.toNat := by
    unfold flQ
    rw [hf, hx, hm]
    by_cases b0 : a3.toNat % 2 = 1 <;> by_cases b1 : a3.toNat / 2 % 2 = 1 <;> simp only [b0, b1, decide_true, decide_false, Bool.toNat_true, Bool.toNat_false] <;> omega
  have hhd : hdQ H = [a0, a1, a2, a3, a4, a5, a6, a7, a8, a9] := by
    unfold hdQ
    rw [hfl, ht, hv, ho, Int.toNat_natCast, Int.toNat_natCast, Int.toNat_natCast, le_one, le_one, le_one, le_num [a4, a5, a6, a7] 4 rfl, ← h3]
    rfl
  have hex : exQ H = if a3.toNat / 4 % 2 = 1 then le 2 e.length ++ e else [] := by unfold exQ; rw [he, hf]; exact if_same _ _ f1
  have hna : naQ H = if a3.toNat / 8 % 2 = 1 then n ++ [0] else [] := by unfold naQ; rw [hn, hf]; exact if_same _ _ f2
  have hno : noQ H = if a3.toNat / 16 % 2 = 1 then c ++ [0] else [] := by unfold noQ; rw [hc, hf]; exact if_same _ _ f3
  unfold boQ
  rw [hhd, hex, hna, hno, List.append_assoc, List.append_assoc, List.append_assoc, ← z1, ← y1, ← x1]
  rfl
/-- What is read is right, and is laid down in just these bytes. -/
theorem prs_only {cr : List UInt8 → Nat} {r : List UInt8} {h : Hq} {k : Nat} (hp : prsQ cr r = (0, h, k)) : rightQ h ∧ encQ cr h = r.take k ∧ 10 ≤ k ∧ k ≤ r.length := by
  unfold prsQ at hp
  by_cases c1 : r.length < 10
  · rw [if_pos c1] at hp; cases hp
  rw [if_neg c1] at hp
  by_cases c2 : r.take 3 ≠ [31, 139, 8]
  · rw [if_pos c2] at hp; cases hp
  rw [if_neg c2] at hp
  by_cases c3 : 32 ≤ (r.getD 3 0).toNat
  · rw [if_pos c3] at hp; cases hp
  rw [if_neg c3] at hp
  obtain ⟨a0, a1, a2, a3, a4, a5, a6, a7, a8, a9, X, rfl⟩ := ten r c1
  have h3 : [a0, a1, a2] = [31, 139, 8] := Decidable.not_not.1 c2
  have hF : a3.toNat < 32 := Nat.not_le.1 c3
  have hg3 : ((a0 :: a1 :: a2 :: a3 :: a4 :: a5 :: a6 :: a7 :: a8 :: a9 :: X).getD 3 0) = a3 := rfl
  have hdX : (a0 :: a1 :: a2 :: a3 :: a4 :: a5 :: a6 :: a7 :: a8 :: a9 :: X).drop 10 = X := rfl
  rw [hg3, hdX] at hp
  cases h1 : p1 a3.toNat X with
  | none => rw [h1] at hp; cases hp
  | some q1 =>
    obtain ⟨e, r1⟩ := q1
    rw [h1] at hp
    dsimp only at hp
    cases h2 : p2 8 a3.toNat r1 with
    | none =>
      rw [h2] at hp; cases hp
    | some q2 =>
      obtain ⟨n, r2⟩ := q2
      rw [h2] at hp
      dsimp only at hp
      cases h4 : p2 16 a3.toNat r2 with
      | none =>
        rw [h4] at hp; cases hp
      | some q3 =>
        obtain ⟨c, r3⟩ := q3
        rw [h4] at hp
        dsimp only at hp
        obtain ⟨hr, hb⟩ := he_read (a4 := a4) (a5 := a5) (a6 := a6) (a7 := a7) (a8 := a8) (a9 := a9) h3 hF h1 h2 h4
        obtain ⟨r, hrr⟩ : ∃ r, r = a0 :: a1 :: a2 :: a3 :: a4 :: a5 :: a6 :: a7 :: a8 :: a9 :: X := ⟨_, rfl⟩
        rw [← hrr] at hp hr hb c1 ⊢
        obtain ⟨H, hH⟩ : ∃ H, H = heQ a3.toNat r e n c := ⟨_, rfl⟩
        rw [← hH] at hp hr hb
        have hm : H.m = decide (a3.toNat / 2 % 2 = 1) := by rw [hH]; rfl
        have hl : r.length = (boQ H).length + r3.length := by rw [← hb, List.length_append]
        have hsub : r.length - r3.length = (boQ H).length := by omega
        have htb : r.take (boQ H).length = boQ H := by rw [← hb, List.take_left' rfl]
        have h10 : 10 ≤ (boQ H).length := by unfold boQ; rw [List.length_append, hd_length]; omega
        rw [hsub, htb] at hp
        by_cases b1 : a3.toNat / 2 % 2 = 1
        · rw [if_pos b1] at hp
          by_cases b2 : r3.length < 2
          · rw [if_pos b2] at hp; cases hp
          rw [if_neg b2] at hp
          by_cases b3 : num (r3.take 2) ≠ cr (boQ H) % 65536
          · rw [if_pos b3] at hp; cases hp
          rw [if_neg b3] at hp
          injection hp with _ hp
          injection hp with e1 e2
          subst e1; subst e2
          refine ⟨hr, ?_, by omega, by omega⟩
          have hl2 : (r3.take 2).length = 2 := by rw [List.length_take]; omega
          unfold encQ smQ
          rw [if_pos (by rw [hm]; exact decide_eq_true b1), ← Decidable.not_not.1 b3, le_num _ 2 hl2]
          conv => rhs; rw [← hb]
          rw [mid_take _ _ (by omega), Nat.add_sub_cancel_left]
        · rw [if_neg b1] at hp
          injection hp with _ hp
          injection hp with e1 e2
          subst e1; subst e2
          refine ⟨hr, ?_, by omega, by omega⟩
          unfold encQ smQ
          rw [if_neg (by rw [hm, decide_eq_false b1]; exact Bool.false_ne_true), List.append_nil, htb]
/-- With an error there is no head. -/
theorem prs_err {cr : List UInt8 → Nat} {r : List UInt8} (h : (prsQ cr r).1 ≠ 0) : prsQ cr r = ((prsQ cr r).1, zQ, 0) := by
  unfold prsQ at h ⊢
  by_cases c1 : r.length < 10
  · rw [if_pos c1]
  rw [if_neg c1] at h ⊢
  by_cases c2 : r.take 3 ≠ [31, 139, 8]
  · rw [if_pos c2]
  rw [if_neg c2] at h ⊢
  by_cases c3 : 32 ≤ (r.getD 3 0).toNat
  · rw [if_pos c3]
  rw [if_neg c3] at h ⊢
  cases h1 : p1 (r.getD 3 0).toNat (r.drop 10) with
  | none => rfl
  | some q1 =>
    rw [h1] at h
    dsimp only at h ⊢
    cases h2 : p2 8 (r.getD 3 0).toNat q1.2 with
    | none => rfl
    | some q2 =>
      rw [h2] at h
      dsimp only at h ⊢
      cases h3 : p2 16 (r.getD 3 0).toNat q2.2 with
      | none => rfl
      | some q3 =>
        rw [h3] at h
        dsimp only at h ⊢
        by_cases b1 : (r.getD 3 0).toNat / 2 % 2 = 1
        · rw [if_pos b1] at h ⊢
          by_cases b2 : q3.2.length < 2
          · rw [if_pos b2]
          rw [if_neg b2] at h ⊢
          by_cases b3 : num (q3.2.take 2) ≠ cr (r.take (r.length - q3.2.length)) % 65536
          · rw [if_pos b3]
          rw [if_neg b3] at h
          exact absurd rfl h
        · rw [if_neg b1] at h
          exact absurd rfl h
end Go.Proofs.Ytgilfjojimgpaaa.Qm
