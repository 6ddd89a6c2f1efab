/-
  A ring of bytes in lists: what it holds, bytes that are stored in it in place of the oldest ones, bytes that are read out of it, bytes that repeat.
  Conditions: as each theorem says.
-/
import Derived.Test.YtnkninjdpgpkmaaGreatDoorBai
import Derived.Laws.CopyOwn
namespace Go.Proofs.YtnkninjdpgpkmaaGreatDoor.Wr
open Go.Proofs.YtnkninjdpgpkmaaGreatDoor.Wm

/-- What a ring l that begins at x holds. -/
def cont (l : List UInt8) (x : Nat) : List UInt8 := l.drop x ++ l.take x
theorem cont_length (l : List UInt8) (x : Nat) : (cont l x).length = l.length := by simp [cont]; omega
theorem cont_zero (l : List UInt8) : cont l 0 = l := by simp [cont]
/-- A ring of at most m bytes; it begins at 0 while it is not full. -/
structure ring (m : Nat) (l : List UInt8) (x : Nat) : Prop where
  le : l.length ≤ m
  lt : x < m
  zero : l.length < m → x = 0
theorem ring.xle {m : Nat} {l : List UInt8} {x : Nat} (h : ring m l x) : x ≤ l.length := by
  rcases Nat.lt_or_ge l.length m with k | k
  · have := h.zero k; omega
  · have := h.lt; omega

section
variable {α : Type}
theorem splice_len (l : List α) (o : Nat) (c : List α) (h : o + c.length ≤ l.length) : (splice l o c).length = l.length := length_splice l o c h
theorem splice_nil (l : List α) (o : Nat) : splice l o [] = l := by simp [splice]
theorem splice_map {β : Type} (f : α → β) (l : List α) (o : Nat) (c : List α) : (splice l o c).map f = splice (l.map f) o (c.map f) := by
  simp [splice, List.map_take, List.map_drop]
theorem splice_get (l : List α) (o : Nat) (c : List α) (h : o + c.length ≤ l.length) (i : Nat) : (splice l o c)[i]? = if i < o then l[i]? else if i < o + c.length then c[i - o]? else l[i]? := by
  unfold splice
  have ht : (l.take o).length = o := by rw [List.length_take]; omega
  by_cases h1 : i < o
  · rw [List.getElem?_append_left (by omega), List.getElem?_take, if_pos h1, if_pos h1]
  · rw [List.getElem?_append_right (by omega), ht, if_neg h1]
    by_cases h2 : i < o + c.length
    · rw [List.getElem?_append_left (by omega), if_pos h2]
    · rw [List.getElem?_append_right (by omega), if_neg h2, List.getElem?_drop]
      congr 1; omega
end

/-- The ring behind s, which is no longer than it, is stored from x on. -/
def rep (l : List UInt8) (x : Nat) (s : List UInt8) : List UInt8 :=
  splice (splice l x (s.take (min s.length (l.length - x)))) 0 (s.drop (min s.length (l.length - x)))
theorem rep_nil (l : List UInt8) (x : Nat) : rep l x [] = l := by simp [rep, splice_nil]
theorem rep_length {m : Nat} {l : List UInt8} {x : Nat} {s : List UInt8} (hl : l.length = m) (hx : x < m) (hs : s.length ≤ m) : (rep l x s).length = m := by
  unfold rep
  rw [splice_len, splice_len]
  · exact hl
  · simp; omega
  · rw [splice_len _ _ _ (by simp; omega)]; simp; omega
theorem rep_cont {m : Nat} {l : List UInt8} {x : Nat} {s : List UInt8} (hl : l.length = m) (hx : x < m) (hs : s.length ≤ m) : cont (rep l x s) ((x + s.length) % m) = lastN m (cont l x ++ s) := by
  have hr : lastN m (cont l x ++ s) = (cont l x ++ s).drop s.length := by
    unfold lastN; congr 1; rw [List.length_append, cont_length]; omega
  rw [hr]
  by_cases h : x + s.length < m
  · rw [Nat.mod_eq_of_lt h]
    have e : rep l x s = l.take x ++ (s ++ l.drop (x + s.length)) := by
      unfold rep
      rw [Nat.min_eq_left (by omega), List.drop_length, splice_nil, List.take_length]; rfl
    have ht : (l.take x).length = x := by rw [List.length_take]; omega
    have h1 : (rep l x s).drop (x + s.length) = l.drop (x + s.length) := by
      rw [e, ← List.append_assoc, List.drop_append, List.drop_eq_nil_of_le (by simp; omega), List.nil_append]
      simp only [List.length_append, ht]
      rw [Nat.sub_self, List.drop_zero]
    have h2 : (rep l x s).take (x + s.length) = l.take x ++ s := by
      rw [e, ← List.append_assoc, List.take_append_of_le_length (by simp; omega), List.take_of_length_le (by simp; omega)]
    unfold cont
    rw [h1, h2, List.append_assoc, List.drop_append, List.drop_drop, List.length_drop, show s.length - (l.length - x) = 0 by omega, List.drop_zero]
  · have hxm : (x + s.length) % m = s.length - (m - x) := by
      rw [show x + s.length = (s.length - (m - x)) + m by omega, Nat.add_mod_right, Nat.mod_eq_of_lt (by omega)]
    rw [hxm]
    have hmin : min s.length (l.length - x) = m - x := by omega
    obtain ⟨l2, hl2⟩ : ∃ l2, l2 = l.take x ++ s.take (m - x) := ⟨_, rfl⟩
    have ht : (l.take x).length = x := by rw [List.length_take]; omega
    have ht2 : (s.take (m - x)).length = m - x := by rw [List.length_take]; omega
    have hd2 : (s.drop (m - x)).length = s.length - (m - x) := by rw [List.length_drop]
    have e : rep l x s = s.drop (m - x) ++ l2.drop (s.length - (m - x)) := by
      unfold rep
      rw [hmin]
      have e1 : splice l x (s.take (m - x)) = l2 := by
        unfold splice; rw [List.drop_eq_nil_of_le (by rw [ht2]; omega), List.append_nil, hl2]
      rw [e1]
      unfold splice
      rw [List.take_zero, List.nil_append, hd2, Nat.zero_add]
    have h1 : (rep l x s).drop (s.length - (m - x)) = l2.drop (s.length - (m - x)) := by
      rw [e, List.drop_append, List.drop_eq_nil_of_le (by rw [hd2]; omega), List.nil_append, hd2, Nat.sub_self, List.drop_zero]
    have h2 : (rep l x s).take (s.length - (m - x)) = s.drop (m - x) := by
      rw [e, List.take_append_of_le_length (by rw [hd2]; omega), List.take_of_length_le (by rw [hd2]; omega)]
    unfold cont
    have hn : (l.drop x).drop s.length = [] := List.drop_eq_nil_of_le (by rw [List.length_drop]; omega)
    rw [h1, h2, hl2, List.drop_append_of_le_length (by rw [ht]; omega), List.append_assoc, List.take_append_drop, List.append_assoc (l.drop x), List.drop_append (l₁ := l.drop x), hn, List.nil_append, List.length_drop, List.drop_append_of_le_length (by rw [ht]; omega), show s.length - (l.length - x) = s.length - (m - x) by omega]
theorem rep_ring {m : Nat} {l : List UInt8} {x : Nat} {s : List UInt8} (hl : l.length = m) (hx : x < m) (hs : s.length ≤ m) : ring m (rep l x s) ((x + s.length) % m) :=
  ⟨by rw [rep_length hl hx hs]; exact Nat.le_refl _, Nat.mod_lt _ (by omega), fun h => by rw [rep_length hl hx hs] at h; omega⟩

/-- The ring behind Put of s: what there is room for is appended, the rest is stored. -/
def putL (m : Nat) (l : List UInt8) (x : Nat) (s : List UInt8) : List UInt8 := rep (l ++ s.take (min s.length (m - l.length))) x (s.drop (min s.length (m - l.length)))
def putX (m : Nat) (l : List UInt8) (x : Nat) (s : List UInt8) : Nat := (x + (s.drop (min s.length (m - l.length))).length) % m
theorem put_ring {m : Nat} {l : List UInt8} {x : Nat} {s : List UInt8} (h : ring m l x) (hs : s.length ≤ m) : ring m (putL m l x s) (putX m l x s) ∧ cont (putL m l x s) (putX m l x s) = put m (cont l x) s := by
  have h1 := h.le
  have h2 := h.lt
  unfold putL putX
  by_cases k : l.length + s.length ≤ m
  · have e : min s.length (m - l.length) = s.length := by omega
    rw [e, List.drop_length, List.take_length, rep_nil, List.length_nil, Nat.add_zero, Nat.mod_eq_of_lt h2]
    have hc : (cont l x ++ s).length ≤ m := by rw [List.length_append, cont_length]; exact k
    refine ⟨⟨by rw [List.length_append]; exact k, h2, fun hlt => ?_⟩, ?_⟩
    · rw [List.length_append] at hlt
      exact h.zero (by omega)
    · unfold put
      rw [lastN_all hc]
      rcases Nat.lt_or_ge l.length m with hlt | hge
      · have := h.zero hlt
        subst this
        rw [cont_zero, cont_zero]
      · have : s = [] := List.eq_nil_of_length_eq_zero (by omega)
        subst this
        rw [List.append_nil, List.append_nil]
  · have e : min s.length (m - l.length) = m - l.length := by omega
    rw [e]
    obtain ⟨l1, hl1⟩ : ∃ l1, l1 = l ++ s.take (m - l.length) := ⟨_, rfl⟩
    have hll : l1.length = m := by rw [hl1, List.length_append, List.length_take]; omega
    have hss : (s.drop (m - l.length)).length ≤ m := by rw [List.length_drop]; omega
    rw [← hl1]
    refine ⟨rep_ring hll h2 hss, ?_⟩
    rw [rep_cont hll h2 hss]
    have hc : cont l1 x = cont l x ++ s.take (m - l.length) := by
      rcases Nat.lt_or_ge l.length m with hlt | hge
      · have := h.zero hlt
        subst this
        rw [cont_zero, cont_zero, hl1]
      · have e0 : m - l.length = 0 := by omega
        rw [hl1, e0, List.take_zero, List.append_nil, List.append_nil]
    unfold put
    rw [hc, List.append_assoc, List.take_append_drop]

/-- Where the byte lies that stands d ahead of the end. -/
def atX (m : Nat) (l : List UInt8) (x d : Nat) : Nat := (x + l.length - d) % m
theorem atX_le {m : Nat} {l : List UInt8} {x d : Nat} (h : ring m l x) (hd : d ≤ l.length) : atX m l x d ≤ l.length := by
  have h1 := h.le
  have h2 := h.lt
  unfold atX
  rcases Nat.lt_or_ge l.length m with k | k
  · have := h.zero k
    rw [Nat.mod_eq_of_lt (by omega)]; omega
  · have := Nat.mod_lt (x + l.length - d) (show 0 < m by omega); omega
/-- k bytes from there on: to the ring's end, and on from its beginning. -/
theorem read_ring {m : Nat} {l : List UInt8} {x d k : Nat} (h : ring m l x) (hd : d ≤ l.length) (hk : k ≤ d) :
    (l.drop (atX m l x d)).take (min k (l.length - atX m l x d)) ++ l.take (k - min k (l.length - atX m l x d)) = (lastN d (cont l x)).take k := by
  have h1 := h.le
  have h2 := h.lt
  have hc : lastN d (cont l x) = (cont l x).drop (l.length - d) := by unfold lastN; rw [cont_length]
  rw [hc]
  unfold atX
  rcases Nat.lt_or_ge l.length m with hm | hm
  · have := h.zero hm
    subst this
    rw [cont_zero, Nat.zero_add, Nat.mod_eq_of_lt (by omega), show min k (l.length - (l.length - d)) = k by omega, Nat.sub_self, List.take_zero, List.append_nil]
  · have hlm : l.length = m := by omega
    unfold cont
    by_cases hdx : d ≤ x
    · have e : (x + l.length - d) % m = x - d := by
        rw [show x + l.length - d = (x - d) + m by omega, Nat.add_mod_right, Nat.mod_eq_of_lt (by omega)]
      have hn : (l.drop x).drop (l.length - d) = [] := List.drop_eq_nil_of_le (by rw [List.length_drop]; omega)
      rw [e, show min k (l.length - (x - d)) = k by omega, Nat.sub_self, List.take_zero, List.append_nil, List.drop_append, hn, List.nil_append, List.length_drop, show l.length - d - (l.length - x) = x - d by omega, List.drop_take, List.take_take, Nat.min_eq_left (by omega)]
    · have e : (x + l.length - d) % m = x + l.length - d := Nat.mod_eq_of_lt (by omega)
      rw [e, List.drop_append_of_le_length (by rw [List.length_drop]; omega), List.drop_drop, show x + (l.length - d) = x + l.length - d by omega, List.take_append, List.length_drop, List.take_take, show l.length - (x + l.length - d) = d - x by omega, show min (k - (d - x)) x = k - min k (d - x) by omega]
      congr 1
      by_cases hkd : k ≤ d - x
      · rw [Nat.min_eq_left hkd]
      · rw [Nat.min_eq_right (by omega), List.take_of_length_le (by rw [List.length_drop]; omega), List.take_of_length_le (by rw [List.length_drop]; omega)]

/-- Bytes of which the first ones are those of t, time and again. -/
def rept (b t : List UInt8) (d k : Nat) : Prop := ∀ i, i < k → i < b.length → b[i]? = t[i % d]?
theorem rept_start {b t : List UInt8} {d : Nat} (h : b.take (min d b.length) = t.take (min d b.length)) : rept b t d d := by
  intro i hi hb
  have e : (b.take (min d b.length))[i]? = (t.take (min d b.length))[i]? := by rw [h]
  rw [List.getElem?_take, List.getElem?_take, if_pos (by omega), if_pos (by omega)] at e
  rw [e, Nat.mod_eq_of_lt hi]
/-- Twice as many, when what is there is copied behind. -/
theorem rept_more {b t : List UInt8} {d q : Nat} (hlt : d * q < b.length) (h : rept b t d (d * q)) : rept (splice b (d * q) (b.take (min (b.length - d * q) (d * q)))) t d (2 * (d * q)) := by
  intro i hi hb
  have hl : (b.take (min (b.length - d * q) (d * q))).length = min (b.length - d * q) (d * q) := by rw [List.length_take]; omega
  have hfit : d * q + (b.take (min (b.length - d * q) (d * q))).length ≤ b.length := by rw [hl]; omega
  rw [splice_len _ _ _ hfit] at hb
  rw [splice_get _ _ _ hfit, hl]
  by_cases h1 : i < d * q
  · rw [if_pos h1]; exact h i h1 hb
  · rw [if_neg h1, if_pos (by omega), List.getElem?_take, if_pos (by omega), h (i - d * q) (by omega) (by omega)]
    congr 1
    rw [show i % d = (i - d * q + d * q) % d by rw [Nat.sub_add_cancel (by omega)], Nat.add_mul_mod_self_left]
theorem rept_out {b c : List UInt8} {d k : Nat} (hd : 1 ≤ d) (hc : d ≤ c.length) (hk : b.length ≤ k) (h : rept b (lastN d c) d k) : b = out c d b.length := by
  have e : c ++ b = ext c d b.length := by
    refine ext_only hd hc (by rw [List.length_append]) (by rw [List.take_append_of_le_length (Nat.le_refl _), List.take_length]) (fun i h1 h2 => ?_)
    rw [List.length_append] at h2
    have hb : ∀ j, j < b.length → b[j]? = c[c.length - d + j % d]? := fun j hj => by
      rw [h j (by omega) hj]; unfold lastN; rw [List.getElem?_drop]
    rw [List.getElem?_append_right h1, hb _ (by omega)]
    by_cases h3 : c.length ≤ i - d
    · rw [List.getElem?_append_right h3, hb _ (by omega)]
      congr 2
      rw [show i - c.length = (i - d - c.length) + d by omega, Nat.add_mod_right]
    · rw [List.getElem?_append_left (by omega), Nat.mod_eq_of_lt (by omega)]
      congr 1; omega
  unfold out
  rw [← e, List.drop_append_of_le_length (Nat.le_refl _), List.drop_length, List.nil_append]
end Go.Proofs.YtnkninjdpgpkmaaGreatDoor.Wr
