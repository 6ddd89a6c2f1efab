/-
  only, Show: a set as it is shown.
  Show: a set as it is shown.
  A set that is shown is read as that set (layer 15), in lists.
  A right tree that is shown is read as that tree (layer 15), in lists.
  What is read is right (layer 15), in lists: a tree that is read is a right one; the depth is enough; errors have a number.
  Nodes in preorder (layer 15): where a tree ends; a list is one right tree just if it is whole and each node has what its kind asks; which trees match the empty text.
  Nodes in memory.
  What a tree matches, between places of a text (layer 17), in lists; tables of truths of each two places.
  Automata with choices, in lists (layer 17): where they go, which rules they tell; ascending lists of numbers.
  Automata with choices in memory (layer 17): edges, rows of edges, the three cells of an automaton.
  What the reference's tables of a tree tell (layer 17): by steps, as they are made; they tell what the tree matches. Sizes and weights of trees.
  Parts of automata (layer 17), as sets of edges: how parts one behind the other, side by side, and again and again, match.
  Chains of parts of automata (layer 17): one part behind the other, with ways out between them (repeats).
  Whole automata of parts (layer 17): a first state from which each part begins; an automaton's lists of edges as a set of edges.
  Conditions: as each theorem says.
-/
import Derived.Test.YthjelilmlbbalaaPah
import Derived.Test.YthjelilmlbbalaaPai
import Derived.Test.YthjelilmlbbalaaPaf
namespace Go.Proofs.Ythjelilmlbbalaa.Ti
open Go.RowKit Go.PlainAid Go.Proofs.Ythjelilmlbbalaa.Vm Go.Proofs.Ythjelilmlbbalaa.Vo Go.Proofs.Ythjelilmlbbalaa.Bw Go.Proofs.Ythjelilmlbbalaa.Ba Go.Proofs.Ythjelilmlbbalaa.Na Go.Proofs.Ythjelilmlbbalaa.Tm Go.Proofs.Ythjelilmlbbalaa.Ts Go.Proofs.Ythjelilmlbbalaa.Ta Go.Proofs.Ythjelilmlbbalaa.Tb Go.Proofs.Ythjelilmlbbalaa.Tc Go.Proofs.Ythjelilmlbbalaa.Td Go.Proofs.Ythjelilmlbbalaa.Te Go.Proofs.Ythjelilmlbbalaa.Tf Go.Proofs.Ythjelilmlbbalaa.Tj Go.Proofs.Ythjelilmlbbalaa.Tg Go.Proofs.Ythjelilmlbbalaa.Th

theorem bts_nl (a : List Nat) : nl ⟨(bts a).toArray⟩ = byt a := by
  show ((byt a).map UInt8.ofNat).map (·.toNat) = byt a
  rw [List.map_map]
  conv => rhs; rw [← List.map_id (byt a)]
  refine List.map_congr_left fun c hc => ?_
  have := (mem_byt.1 hc).1
  simp
  omega
theorem asc_byt (a : List Nat) : asc (byt a) := List.Pairwise.filter _ List.pairwise_lt_range
theorem bts_size (a : List Nat) : (⟨(bts a).toArray⟩ : ByteArray).size ≤ 256 := btTo_len a 256

/-- The byte of a set that has just one. -/
def onlyR (a : List Nat) : Value := match byt a with
  | [x] => .tuple #[.int .u8 (x : Int), .bool true]
  | _ => .tuple #[.int .u8 0, .bool false]

end Go.Proofs.Ythjelilmlbbalaa.Ti
namespace Go.Proofs.Ythjelilmlbbalaa.Tn
open Go.RowKit Go.PlainAid Go.Proofs.Ythjelilmlbbalaa.Vm Go.Proofs.Ythjelilmlbbalaa.Vo Go.Proofs.Ythjelilmlbbalaa.Bw Go.Proofs.Ythjelilmlbbalaa.Ba Go.Proofs.Ythjelilmlbbalaa.Na Go.Proofs.Ythjelilmlbbalaa.Tm Go.Proofs.Ythjelilmlbbalaa.Ts Go.Proofs.Ythjelilmlbbalaa.Ta Go.Proofs.Ythjelilmlbbalaa.Tb Go.Proofs.Ythjelilmlbbalaa.Tc Go.Proofs.Ythjelilmlbbalaa.Td Go.Proofs.Ythjelilmlbbalaa.Te Go.Proofs.Ythjelilmlbbalaa.Tf Go.Proofs.Ythjelilmlbbalaa.Tj Go.Proofs.Ythjelilmlbbalaa.Tg Go.Proofs.Ythjelilmlbbalaa.Th Go.Proofs.Ythjelilmlbbalaa.Ti

theorem shw_one {a : List Nat} {x : Nat} (h : byt a = [x]) : shwQ a (notL a) = nota x := by unfold shwQ; rw [h]
theorem shw_big {a : List Nat} (h : (byt a).length ≠ 1) (h2 : 128 < (byt a).length) : shwQ a (notL a) = 91 :: 94 :: (lstQ (byt (notL a)) ++ [93]) := by
  unfold shwQ
  split
  · next e => rw [e] at h; exact absurd rfl h
  · rw [if_pos h2]
theorem shw_low {a : List Nat} (h : (byt a).length ≠ 1) (h2 : ¬ 128 < (byt a).length) : shwQ a (notL a) = 91 :: (lstQ (byt a) ++ [93]) := by
  unfold shwQ
  split
  · next e => rw [e] at h; exact absurd rfl h
  · rw [if_neg h2]
theorem only_one {a : List Nat} {x : Nat} (h : byt a = [x]) : onlyR a = .tuple #[.int .u8 (x : Int), .bool true] := by unfold onlyR; rw [h]
theorem only_not {a : List Nat} (h : (byt a).length ≠ 1) : onlyR a = .tuple #[.int .u8 0, .bool false] := by
  unfold onlyR
  split
  · next e => rw [e] at h; exact absurd rfl h
  · rfl
theorem below_size (w : World) (z : Array Value) : (w.alloc (.cells z 64)).heap.size = w.heap.size + 1 := size_alloc _ _

theorem ob_lit1 {w : World} {base : Nat} (hb : base ≤ w.heap.size) : ob base (w.alloc (.cells #[Value.int .u8 91] 5)) (.slice (some ⟨w.heap.size, 0, none⟩) 1 1) [91] := ob_lit (c := [91]) (by decide) hb
/-- A row of bytes stays where a set is stored. -/
theorem ob_row {w : World} {base g : Nat} {v : Value} {l : List UInt8} {z z' : Array Value} (h : ob base w v l) (hb : Blk w g 64 z) : ob base (w.setRow g z') v l :=
  own_only (S := fun i => i = g) h ⟨rfl, rfl, rfl, by rw [setRow_size]; exact Nat.le_refl _, fun k _ hk => setRow_other w g k z' hk⟩ (fun i hi => own_apart h hb (by decide) i hi)
theorem size_row {w : World} {g : Nat} {z : Array Value} : (w.setRow g z).heap.size = w.heap.size := setRow_size _ _ _

end Go.Proofs.Ythjelilmlbbalaa.Tn
namespace Go.Proofs.Ythjelilmlbbalaa.Rs
open Go.Proofs.Ythjelilmlbbalaa.Tm Go.Proofs.Ythjelilmlbbalaa.Ts Go.Proofs.Ythjelilmlbbalaa.Ta Go.Proofs.Ythjelilmlbbalaa.Tb Go.Proofs.Ythjelilmlbbalaa.Td Go.Proofs.Ythjelilmlbbalaa.Tf Go.Proofs.Ythjelilmlbbalaa.Th Go.Proofs.Ythjelilmlbbalaa.Ti Go.Proofs.Ythjelilmlbbalaa.Tn Go.Proofs.Ythjelilmlbbalaa.Rm

/-- Bytes as numbers. -/
def nb (l : List UInt8) : List Nat := l.map (·.toNat)
theorem nb_append (a b : List UInt8) : nb (a ++ b) = nb a ++ nb b := by simp [nb]
theorem nb_cons (a : UInt8) (b : List UInt8) : nb (a :: b) = a.toNat :: nb b := rfl
theorem hex_hexd : ∀ k < 16, hexP (hexd k).toNat = some k := by decide
theorem mask_not : ∀ c ∈ maskL, c ≠ 110 ∧ c ≠ 116 ∧ c ≠ 115 ∧ c ≠ 100 ∧ c ≠ 119 ∧ c ≠ 120 := by decide
theorem spc_mask : ∀ c, spcQ c → c ∈ maskL := by
  intro c h
  unfold spcQ at h
  simp only [List.mem_cons, List.not_mem_nil, or_false] at h
  rcases h with h | h | h | h | h | h | h | h | h | h | h | h <;> subst h <;> decide
/-- A byte's notation: an escape, or itself. -/
theorem nota_cases {x : Nat} (hx : x < 256) : (∃ m, nb (nota x) = 92 :: m ∧ ∀ r, escP (m ++ r) = .ok (one x, some x) r) ∨ (nb (nota x) = [x] ∧ x ∉ maskL) := by
  have hb : (UInt8.ofNat x).toNat = x := by simp; omega
  unfold nota
  by_cases h10 : x = 10
  · subst h10; exact .inl ⟨[110], by decide, fun r => rfl⟩
  rw [if_neg h10]
  by_cases h9 : x = 9
  · subst h9; exact .inl ⟨[116], by decide, fun r => rfl⟩
  rw [if_neg h9]
  by_cases h32 : x = 32
  · subst h32; exact .inl ⟨[115], by decide, fun r => rfl⟩
  rw [if_neg h32]
  by_cases hm : x ∈ maskL
  · rw [if_pos hm]
    refine .inl ⟨[x], by rw [nb_cons, nb_cons, hb]; rfl, fun r => ?_⟩
    obtain ⟨m1, m2, m3, m4, m5, m6⟩ := mask_not x hm
    show escP (x :: r) = _
    unfold escP
    simp only [if_neg m1, if_neg m2, if_neg m3, if_neg m4, if_neg m5, if_neg m6, if_pos hm]
  rw [if_neg hm]
  by_cases hr : 32 < x ∧ x < 127
  · rw [if_pos hr]
    exact .inr ⟨by rw [nb_cons, hb]; rfl, hm⟩
  rw [if_neg hr]
  refine .inl ⟨[120, (hexd (x / 16)).toNat, (hexd (x % 16)).toNat], rfl, fun r => ?_⟩
  show escP (120 :: (hexd (x / 16)).toNat :: (hexd (x % 16)).toNat :: r) = _
  unfold escP
  simp only [show ¬ (120 = 110) by decide, show ¬ (120 = 116) by decide, show ¬ (120 = 115) by decide, show ¬ (120 = 100) by decide, show ¬ (120 = 119) by decide, if_false, if_true]
  rw [hex_hexd _ (by omega), hex_hexd _ (by omega)]
  show Out.ok (one (16 * (x / 16) + x % 16), some (16 * (x / 16) + x % 16)) r = _
  rw [show 16 * (x / 16) + x % 16 = x by omega]
theorem chr_nota {x : Nat} (hx : x < 256) (r : List Nat) : chrP (nb (nota x) ++ r) = .ok (one x, some x) r := by
  rcases nota_cases hx with ⟨m, e, h⟩ | ⟨e, h⟩
  · rw [e]
    show chrP (92 :: (m ++ r)) = _
    rw [chrP, if_pos rfl, h]
  · rw [e]
    show chrP (x :: r) = _
    have n1 : x ≠ 92 := fun e => h (by rw [e]; decide)
    have n2 : x ≠ 45 := fun e => h (by rw [e]; decide)
    rw [chrP, if_neg n1, if_neg n2]
/-- .. its first byte. -/
theorem nota_head {x : Nat} (hx : x < 256) : ∃ c m, nb (nota x) = c :: m ∧ c ≠ 93 ∧ c ≠ 45 ∧ c ≠ 94 ∧ c ≠ 40 ∧ c ≠ 91 ∧ c ≠ 46 ∧ c ≠ 41 ∧ c ≠ 42 ∧ c ≠ 43 ∧ c ≠ 63 ∧ c ≠ 123 ∧ c ≠ 124 := by
  rcases nota_cases hx with ⟨m, e, _⟩ | ⟨e, h⟩
  · exact ⟨92, m, e, by decide⟩
  · exact ⟨x, [], e, by
      refine ⟨?_, ?_, ?_, ?_, ?_, ?_, ?_, ?_, ?_, ?_, ?_, ?_⟩ <;> (intro e; subst e; exact h (by decide))⟩
theorem atom_nota {x : Nat} (hx : x < 256) (f : Nat) (r : List Nat) : prs (f + 1) .atom (nb (nota x) ++ r) = .ok (.set (one x)) r := by
  rcases nota_cases hx with ⟨m, e, h⟩ | ⟨e, h⟩
  · rw [e]
    show prs (f + 1) .atom (92 :: (m ++ r)) = _
    unfold prs
    simp only [show ¬ (92 = 40) by decide, show ¬ (92 = 91) by decide, show ¬ (92 = 46) by decide, if_false, if_true]
    rw [h]
  · rw [e]
    show prs (f + 1) .atom (x :: r) = _
    unfold prs
    have n : ∀ k ∈ maskL, x ≠ k := fun k hk e => h (by rw [e]; exact hk)
    simp only [if_neg (n 40 (by decide)), if_neg (n 91 (by decide)), if_neg (n 46 (by decide)), if_neg (n 92 (by decide)), if_neg (fun hs => h (spc_mask x hs))]

theorem one_set (c : Nat) : isSet (one c) := ofS_set _
theorem has_one {c d : Nat} (hc : c < 256) (hd : d < 256) : has (one c) d = decide (d = c) := by
  unfold one
  rw [has_ofS _ hd]
  simp
  congr 1
  rw [Nat.mod_eq_of_lt (by omega)]
/-- The list of a class is read to its end: what has been read so far goes on. -/
theorem cls_list (at' : Nat) (neg : Bool) (r : List Nat) : ∀ (n : Nat) (b : List Nat), b.length ≤ n → asc b → (∀ x ∈ b, x < 256) → ∀ (acc : List Nat), isSet acc → ∀ f, (nb (lstQ b)).length + 1 ≤ f →
    ∃ (acc' : List Nat) (f' : Nat), isSet acc' ∧ (∀ c, c < 256 → has acc' c = (has acc c || decide (c ∈ b))) ∧ clsP at' neg f acc (nb (lstQ b) ++ 93 :: r) = clsP at' neg (f' + 1) acc' (93 :: r)
  | _, [], _, _, _, acc, ha, f, hf => by
    rw [lstQ_nil] at hf ⊢
    obtain ⟨f', rfl⟩ : ∃ f', f = f' + 1 := ⟨f - 1, by simp [nb] at hf; omega⟩
    exact ⟨acc, f', ha, fun c _ => by simp, rfl⟩
  | 0, x :: q, h, _, _, _, _, _, _ => absurd h (by simp)
  | n + 1, x :: q, hn, hasc, hlt, acc, ha, f, hf => by
    have hx : x < 256 := hlt x (by simp)
    rw [List.length_cons] at hn
    obtain ⟨c0, m0, e0, z93, z45, _⟩ := nota_head hx
    have hpos : 1 ≤ (nb (nota x)).length := by rw [e0]; simp
    by_cases h2 : 2 ≤ runF x q
    · have hle := runF_le x q
      have hy : (x :: q)[runF x q]? = some (x + runF x q) := runF_get x q _ (Nat.le_refl _)
      have hy256 : x + runF x q < 256 := hlt _ (List.mem_of_getElem? hy)
      obtain ⟨c1, m1, e1, y93, _⟩ := nota_head hy256
      rw [lstQ_run h2] at hf ⊢
      have hacc : isSet (orL acc (frm x (x + runF x q + 1))) := orL_set ha (frm_set _ _)
      rw [nb_append, nb_cons, nb_append] at hf
      have hf1 : (nb (lstQ (q.drop (runF x q)))).length + 1 ≤ f - 1 := by
        simp only [List.length_append, List.length_cons] at hf; omega
      obtain ⟨acc', f', g1, g2, g3⟩ := cls_list at' neg r n (q.drop (runF x q)) (by rw [List.length_drop]; omega) (by have := asc_drop hasc (runF x q + 1); rwa [List.drop_succ_cons] at this) (fun z hz => hlt z (by simp [List.mem_of_mem_drop hz])) _ hacc (f - 1) hf1
      refine ⟨acc', f', g1, fun c hc => ?_, ?_⟩
      · rw [g2 c hc, has_or hc, has_frm hy256 hc, Bool.or_assoc]
        congr 1
        rw [Bool.eq_iff_iff]
        simp only [Bool.or_eq_true, Bool.and_eq_true, decide_eq_true_eq]
        constructor
        · rintro (⟨k1, k2⟩ | k)
          · obtain ⟨j, hj⟩ : ∃ j, c = x + j := ⟨c - x, by omega⟩
            have := runF_get x q j (by omega)
            rw [← hj] at this
            exact List.mem_of_getElem? this
          · exact List.mem_cons_of_mem _ (List.mem_of_mem_drop k)
        · intro k
          obtain ⟨j, hj, hjc⟩ := List.getElem_of_mem k
          have hj' : (x :: q)[j]? = some c := by rw [List.getElem?_eq_getElem hj, hjc]
          by_cases hjr : j ≤ runF x q
          · have := runF_get x q j hjr
            rw [hj'] at this
            injection this with this
            exact .inl ⟨by omega, by omega⟩
          · refine .inr ?_
            have : (q.drop (runF x q))[j - runF x q - 1]? = some c := by
              rw [List.getElem?_drop]
              rw [show j = (runF x q + (j - runF x q - 1)) + 1 by omega, List.getElem?_cons_succ] at hj'
              exact hj'
            exact List.mem_of_getElem? this
      · rw [← g3]
        obtain ⟨f0, rfl⟩ : ∃ f0, f = f0 + 1 := ⟨f - 1, by omega⟩
        rw [nb_append, nb_cons, nb_append, show f0 + 1 - 1 = f0 by omega, e0]
        show clsP at' neg (f0 + 1) acc (c0 :: (m0 ++ 45 :: (nb (nota (x + runF x q)) ++ nb (lstQ (q.drop (runF x q)))) ++ 93 :: r)) = _
        rw [clsP, if_neg z93]
        have hc := chr_nota hx (45 :: (nb (nota (x + runF x q)) ++ (nb (lstQ (q.drop (runF x q))) ++ 93 :: r)))
        rw [e0] at hc
        have hc' : chrP (c0 :: (m0 ++ 45 :: (nb (nota (x + runF x q)) ++ nb (lstQ (q.drop (runF x q)))) ++ 93 :: r)) = .ok (one x, some x) (45 :: (nb (nota (x + runF x q)) ++ (nb (lstQ (q.drop (runF x q))) ++ 93 :: r))) := by
          rw [← hc]; simp
        rw [hc']
        have hd := chr_nota hy256 (nb (lstQ (q.drop (runF x q))) ++ 93 :: r)
        rw [e1] at hd ⊢
        rw [List.cons_append] at hd
        show (if c1 = 93 then _ else match chrP (c1 :: (m1 ++ (nb (lstQ (q.drop (runF x q))) ++ 93 :: r))) with | .err e k => _ | .ok (_, o') r4 => _) = _
        rw [if_neg y93, hd]
        show (if x + runF x q < x then _ else _) = _
        rw [if_neg (by omega)]
    · rw [lstQ_one h2] at hf ⊢
      have hacc : isSet (orL acc (one x)) := orL_set ha (one_set _)
      rw [nb_append] at hf
      have hf1 : (nb (lstQ q)).length + 1 ≤ f - 1 := by
        simp only [List.length_append] at hf; omega
      obtain ⟨acc', f', g1, g2, g3⟩ := cls_list at' neg r n q (by omega) (by have := asc_drop hasc 1; simpa using this) (fun z hz => hlt z (by simp [hz])) _ hacc (f - 1) hf1
      refine ⟨acc', f', g1, fun c hc => ?_, ?_⟩
      · rw [g2 c hc, has_or hc, has_one hx hc, Bool.or_assoc]
        congr 1
        rw [Bool.eq_iff_iff]
        simp
      · rw [← g3]
        obtain ⟨f0, rfl⟩ : ∃ f0, f = f0 + 1 := ⟨f - 1, by omega⟩
        have hc := chr_nota hx (nb (lstQ q) ++ 93 :: r)
        rw [nb_append, show f0 + 1 - 1 = f0 by omega, List.append_assoc]
        rw [e0] at hc ⊢
        show clsP at' neg (f0 + 1) acc (c0 :: (m0 ++ (nb (lstQ q) ++ 93 :: r))) = _
        rw [clsP, if_neg z93, show c0 :: (m0 ++ (nb (lstQ q) ++ 93 :: r)) = c0 :: m0 ++ (nb (lstQ q) ++ 93 :: r) from rfl, hc]
        -- what stands behind it is no minus sign
        have hm : ∃ d m, nb (lstQ q) ++ 93 :: r = d :: m ∧ d ≠ 45 := by
          cases q with
          | nil => rw [lstQ_nil]; exact ⟨93, r, rfl, by decide⟩
          | cons y q' =>
            obtain ⟨c2, m2, e2, _, w45, _⟩ := nota_head (hlt y (by simp))
            by_cases h3 : 2 ≤ runF y q'
            · rw [lstQ_run h3, nb_append, e2]; exact ⟨c2, _, rfl, w45⟩
            · rw [lstQ_one h3, nb_append, e2]; exact ⟨c2, _, rfl, w45⟩
        obtain ⟨d, m, ed, hd45⟩ := hm
        rw [ed]
        dsimp only
        split
        · next h =>
          injection h with h1 h2
          exact absurd h1 hd45
        · rfl

/-- A set as it is shown. -/
def shN (a : List Nat) : List Nat := nb (shwQ a (notL a))
theorem byt_lt {a : List Nat} : ∀ x ∈ byt a, x < 256 := fun _ hx => (mem_byt.1 hx).1
theorem byt_nil {a : List Nat} (ha : isSet a) (h : byt a = []) : a = zero := set_ext ha zero_set fun c hc => by
  rw [has_zero hc, Bool.eq_false_iff]
  intro e
  have : c ∈ byt a := mem_byt.2 ⟨hc, e⟩
  rw [h] at this
  cases this
theorem or_zero {b : List Nat} {acc a : List Nat} (ha : isSet acc) (hs : isSet a) (hb : b = byt a) (h : ∀ c, c < 256 → has acc c = (has zero c || decide (c ∈ b))) : acc = a := set_ext ha hs fun c hc => by
  rw [h c hc, has_zero hc, Bool.false_or, hb, Bool.eq_iff_iff]
  simp only [decide_eq_true_eq]
  exact ⟨fun k => (mem_byt.1 k).2, fun k => mem_byt.2 ⟨hc, k⟩⟩
/-- What is shown of a set is read as that set. -/
theorem set_atom {a : List Nat} (ha : isSet a) (hz : a ≠ zero) (f : Nat) (r : List Nat) : prs (f + 1) .atom (shN a ++ r) = .ok (.set a) r := by
  unfold shN
  by_cases h1 : (byt a).length = 1
  · obtain ⟨x, hx⟩ : ∃ x, byt a = [x] := List.length_eq_one_iff.1 h1
    rw [shw_one hx, atom_nota (byt_lt x (by rw [hx]; simp))]
    have e : one x = a := by
      have := ofS_byt ha
      rw [hx] at this
      exact this
    rw [e]
  · by_cases h2 : 128 < (byt a).length
    · rw [shw_big h1 h2, nb_cons, nb_cons, nb_append]
      show prs (f + 1) .atom (91 :: 94 :: (nb (lstQ (byt (notL a))) ++ [93] ++ r)) = _
      rw [List.append_assoc, show [93] ++ r = 93 :: r from rfl]
      unfold prs
      simp only [show ¬ (91 = 40) by decide, if_false, if_true]
      obtain ⟨acc, f', g1, g2, g3⟩ := cls_list ((nb (lstQ (byt (notL a))) ++ 93 :: r).length + 1 + 1) true r _ (byt (notL a)) (Nat.le_refl _) (asc_byt _) byt_lt zero zero_set ((nb (lstQ (byt (notL a))) ++ 93 :: r).length + 1) (by rw [List.length_append]; omega)
      have hacc : acc = notL a := or_zero g1 (notL_set ha) rfl g2
      rw [List.length_cons, g3, clsP, if_pos rfl, if_pos rfl, hacc, not_not ha, if_neg hz]
    · rw [shw_low h1 h2, nb_cons, nb_append]
      show prs (f + 1) .atom (91 :: (nb (lstQ (byt a)) ++ [93] ++ r)) = _
      rw [List.append_assoc, show [93] ++ r = 93 :: r from rfl]
      obtain ⟨x, q, hxq⟩ : ∃ x q, byt a = x :: q := by
        cases h : byt a with
        | nil => exact absurd (byt_nil ha h) hz
        | cons x q => exact ⟨x, q, rfl⟩
      obtain ⟨d, m, ed, hd⟩ : ∃ d m, nb (lstQ (byt a)) ++ 93 :: r = d :: m ∧ d ≠ 94 := by
        obtain ⟨c2, m2, e2, _, _, w94, _⟩ := nota_head (byt_lt x (by rw [hxq]; simp))
        rw [hxq]
        by_cases h3 : 2 ≤ runF x q
        · rw [lstQ_run h3, nb_append, e2]; exact ⟨c2, _, rfl, w94⟩
        · rw [lstQ_one h3, nb_append, e2]; exact ⟨c2, _, rfl, w94⟩
      obtain ⟨acc, f', g1, g2, g3⟩ := cls_list ((nb (lstQ (byt a)) ++ 93 :: r).length + 1) false r _ (byt a) (Nat.le_refl _) (asc_byt _) byt_lt zero zero_set ((nb (lstQ (byt a)) ++ 93 :: r).length + 1) (by rw [List.length_append]; omega)
      have hacc : acc = a := or_zero g1 ha rfl g2
      rw [ed] at g3 ⊢
      unfold prs
      simp only [show ¬ (91 = 40) by decide, if_false, if_true, if_neg hd]
      rw [g3, clsP, if_pos rfl]
      simp only [Bool.false_eq_true, if_false, hacc, if_neg hz]
/-- .. its first byte. -/
theorem set_head (a : List Nat) : ∃ c m, shN a = c :: m ∧ c ≠ 41 ∧ c ≠ 42 ∧ c ≠ 43 ∧ c ≠ 63 ∧ c ≠ 123 ∧ c ≠ 124 := by
  unfold shN
  by_cases h1 : (byt a).length = 1
  · obtain ⟨x, hx⟩ : ∃ x, byt a = [x] := List.length_eq_one_iff.1 h1
    rw [shw_one hx]
    obtain ⟨c, m, e, _, _, _, _, _, _, k1, k2, k3, k4, k5, k6⟩ := nota_head (byt_lt x (by rw [hx]; simp))
    exact ⟨c, m, e, k1, k2, k3, k4, k5, k6⟩
  · by_cases h2 : 128 < (byt a).length
    · rw [shw_big h1 h2]; exact ⟨91, _, rfl, by decide⟩
    · rw [shw_low h1 h2]; exact ⟨91, _, rfl, by decide⟩
end Go.Proofs.Ythjelilmlbbalaa.Rs
namespace Go.Proofs.Ythjelilmlbbalaa.Rt
open Go.Proofs.Ythjelilmlbbalaa.Tm Go.Proofs.Ythjelilmlbbalaa.Ts Go.Proofs.Ythjelilmlbbalaa.Ta Go.Proofs.Ythjelilmlbbalaa.Tb Go.Proofs.Ythjelilmlbbalaa.Rm Go.Proofs.Ythjelilmlbbalaa.Rs

/-- A number of at most 30, in decimal digits. -/
def decQ (n : Nat) : List Nat := if n < 10 then [48 + n] else [48 + n / 10, 48 + n % 10]
def timQ (lo : Nat) (hi : Int) : List Nat := 123 :: (decQ lo ++ (if hi < 0 then [44] else if (lo : Int) < hi then 44 :: decQ hi.toNat else []) ++ [125])
def isAlt : T → Bool
  | .alt _ => true
  | _ => false
def isCat : T → Bool
  | .cat _ => true
  | _ => false
/-- Shown as an atom without parentheses. -/
def isAtm : T → Bool
  | .set _ => true
  | .emp => true
  | _ => false
/-- In parentheses, if so. -/
def par (b : Bool) (l : List Nat) : List Nat := if b = true then 40 :: (l ++ [41]) else l
mutual
/-- A tree as text. -/
def tx : T → List Nat
  | .set a => shN a
  | .emp => [40, 41]
  | .cat l => txC l
  | .alt l => txA l
  | .star t => par (!isAtm t) (tx t) ++ [42]
  | .plus t => par (!isAtm t) (tx t) ++ [43]
  | .opt t => par (!isAtm t) (tx t) ++ [63]
  | .rep lo hi t => par (!isAtm t) (tx t) ++ timQ lo hi
def txC : List T → List Nat
  | [] => []
  | t :: l => par (isAlt t || isCat t) (tx t) ++ txC l
/-- Each part behind a |. -/
def txB : List T → List Nat
  | [] => []
  | t :: l => 124 :: (par (isAlt t) (tx t) ++ txB l)
def txA : List T → List Nat
  | [] => []
  | t :: l => par (isAlt t) (tx t) ++ txB l
end

/-- No repetition begins here. -/
def noRep (r : List Nat) : Prop := r.head? ≠ some 42 ∧ r.head? ≠ some 43 ∧ r.head? ≠ some 63 ∧ r.head? ≠ some 123
/-- A cat ends here; an alt does. -/
def endC (r : List Nat) : Prop := r = [] ∨ r.head? = some 41 ∨ r.head? = some 124
def endA (r : List Nat) : Prop := r = [] ∨ r.head? = some 41
theorem endA.c {r : List Nat} (h : endA r) : endC r := h.elim .inl (fun k => .inr (.inl k))
theorem endC.rep {r : List Nat} (h : endC r) : noRep r := by
  rcases h with rfl | h | h
  · exact ⟨by simp, by simp, by simp, by simp⟩
  · unfold noRep; rw [h]; decide
  · unfold noRep; rw [h]; decide
/-- The first byte of what is shown of a right tree. -/
def good (l : List Nat) : Prop := ∃ c m, l = c :: m ∧ c ≠ 41 ∧ c ≠ 42 ∧ c ≠ 43 ∧ c ≠ 63 ∧ c ≠ 123 ∧ c ≠ 124
theorem good_par {b : Bool} {l : List Nat} (h : good l) : good (par b l) := by
  cases b
  · exact h
  · exact ⟨40, _, rfl, by decide⟩
theorem good_app {l m : List Nat} (h : good l) : good (l ++ m) := by
  obtain ⟨c, q, rfl, k⟩ := h
  exact ⟨c, q ++ m, rfl, k⟩
mutual
theorem good_tx : ∀ t : T, okT t → good (tx t)
  | .set a, _ => by unfold tx; exact set_head a
  | .emp, _ => by unfold tx; exact ⟨40, _, rfl, by decide⟩
  | .cat l, h => by unfold tx; unfold okT at h; exact good_txC l h.2 h.1
  | .alt l, h => by
    unfold tx
    unfold okT at h
    match l, h with
    | t :: l, h => unfold txA; have h2 := h.2; unfold okTs at h2; exact good_app (good_par (good_tx t h2.1))
    | [], h => exact absurd h.1 (by simp)
  | .star t, h => by unfold tx; unfold okT at h; exact good_app (good_par (good_tx t h))
  | .plus t, h => by unfold tx; unfold okT at h; exact good_app (good_par (good_tx t h))
  | .opt t, h => by unfold tx; unfold okT at h; exact good_app (good_par (good_tx t h))
  | .rep lo hi t, h => by unfold tx; unfold okT at h; exact good_app (good_par (good_tx t h.2.2))
theorem good_txC : ∀ l : List T, okTs l → 2 ≤ l.length → good (txC l)
  | [], _, h => absurd h (by simp)
  | t :: l, h, _ => by unfold txC; unfold okTs at h; exact good_app (good_par (good_tx t h.1))
end
theorem good_noRep {l m : List Nat} (h : good l) : noRep (l ++ m) := by
  obtain ⟨c, q, rfl, _, k2, k3, k4, k5, _⟩ := h
  unfold noRep
  simp only [List.cons_append, List.head?_cons, ne_eq, Option.some.injEq]
  exact ⟨k2, k3, k4, k5⟩
/-- The digits are read. -/
theorem num_dec {n : Nat} (h : n ≤ 30) {c : Nat} (hc : digQ c = false) (r : List Nat) : numP (decQ n ++ c :: r) = .ok n (c :: r) := by
  unfold decQ
  have d : ∀ k < 10, digQ (48 + k) = true := by decide
  split
  · next h10 =>
    show numP ((48 + n) :: c :: r) = _
    rw [numP, if_pos (d n h10)]
    simp only [hc, Bool.false_eq_true, if_false]
    rw [show 48 + n - 48 = n by omega]
  · show numP ((48 + n / 10) :: (48 + n % 10) :: c :: r) = _
    rw [numP, if_pos (d _ (by omega))]
    simp only [d (n % 10) (by omega), if_true]
    rw [show 10 * (48 + n / 10 - 48) + (48 + n % 10 - 48) = n by omega]
theorem dec_head (n : Nat) (h : n ≤ 30) : ∃ c m, decQ n = c :: m ∧ c ≠ 125 := by
  unfold decQ
  split
  · exact ⟨_, _, rfl, by omega⟩
  · exact ⟨_, _, rfl, by omega⟩
theorem tim_read {lo : Nat} {hi : Int} (h1 : lo ≤ 30) (h2 : hi = -1 ∨ ((lo : Int) ≤ hi ∧ hi ≤ 30)) (k : Nat) (r : List Nat) : ∃ m, timQ lo hi ++ r = 123 :: m ∧ timP k m = .ok (lo, hi) r := by
  unfold timQ
  refine ⟨_, rfl, ?_⟩
  show timP k (decQ lo ++ (if hi < 0 then [44] else if (lo : Int) < hi then 44 :: decQ hi.toNat else []) ++ [125] ++ r) = _
  rcases h2 with rfl | ⟨g1, g2⟩
  · rw [if_pos (by decide), List.append_assoc, List.append_assoc, show [44] ++ ([125] ++ r) = 44 :: 125 :: r from rfl]
    unfold timP
    rw [num_dec h1 (by decide)]
    simp only [List.head?_cons, if_true]
    rw [endP, if_pos rfl, if_neg (by omega)]
  · by_cases g : (lo : Int) < hi
    · rw [if_neg (by omega), if_pos g, List.append_assoc, List.append_assoc, show 44 :: decQ hi.toNat ++ ([125] ++ r) = 44 :: (decQ hi.toNat ++ 125 :: r) by simp]
      unfold timP
      rw [num_dec h1 (by decide)]
      obtain ⟨c, m, e, hc⟩ := dec_head hi.toNat (by omega)
      have hh : (decQ hi.toNat ++ 125 :: r).head? ≠ some 125 := by rw [e]; simpa using hc
      simp only [hh, if_false, num_dec (show hi.toNat ≤ 30 by omega) (show digQ 125 = false by decide)]
      rw [endP, if_pos rfl, if_neg (by omega), show ((hi.toNat : Nat) : Int) = hi by omega]
    · rw [if_neg (by omega), if_neg g, List.append_nil, List.append_assoc, show [125] ++ r = 125 :: r from rfl]
      unfold timP
      rw [num_dec h1 (by decide)]
      unfold endP
      simp only [if_true]
      rw [if_neg (by omega), show hi = (lo : Int) by omega]

/-- What each part of the reader makes of a shown tree. -/
structure rd (t : T) : Prop where
  a : ∀ f r, 4 * (tx t ++ r).length + 4 ≤ f → endA r → prs f .alt (tx t ++ r) = .ok t r
  c : isAlt t = false → ∀ f r, 4 * (tx t ++ r).length + 3 ≤ f → endC r → prs f (.cat []) (tx t ++ r) = .ok t r
  r : isAlt t = false → isCat t = false → ∀ f r, 4 * (tx t ++ r).length + 2 ≤ f → noRep r → prs f .rep (tx t ++ r) = .ok t r
theorem reps_stop {r : List Nat} (h : noRep r) (f : Nat) (t : T) : prs (f + 1) (.reps t) r = .ok t r := by
  cases r with
  | nil => rfl
  | cons c m =>
    unfold noRep at h
    simp only [List.head?_cons, ne_eq, Option.some.injEq] at h
    rw [prs]
    simp only [if_neg h.1, if_neg h.2.1, if_neg h.2.2.1, if_neg h.2.2.2]
theorem cat_stop {r : List Nat} (h : endC r) (f : Nat) (acc : List T) : prs (f + 1) (.cat acc) r = .ok (if acc = [] then .emp else many .cat acc) r := by
  rcases h with rfl | h | h
  · rfl
  · obtain ⟨m, rfl⟩ : ∃ m, r = 41 :: m := by
      cases r with
      | nil => cases h
      | cons c m => simp at h; exact ⟨m, by rw [h]⟩
    rw [prs]; rfl
  · obtain ⟨m, rfl⟩ : ∃ m, r = 124 :: m := by
      cases r with
      | nil => cases h
      | cons c m => simp at h; exact ⟨m, by rw [h]⟩
    rw [prs]; rfl
theorem alts_stop {r : List Nat} (h : endA r) (f : Nat) (acc : List T) : prs (f + 1) (.alts acc) r = .ok (many .alt acc) r := by
  rcases h with rfl | h
  · rfl
  · obtain ⟨m, rfl⟩ : ∃ m, r = 41 :: m := by
      cases r with
      | nil => cases h
      | cons c m => simp at h; exact ⟨m, by rw [h]⟩
    rw [prs]; rfl
/-- In parentheses it is an atom. -/
theorem atom_par {t : T} (h : rd t) (f : Nat) (r : List Nat) (hf : 4 * (40 :: (tx t ++ [41]) ++ r).length + 1 ≤ f) : prs f .atom (40 :: (tx t ++ [41]) ++ r) = .ok t r := by
  obtain ⟨f, rfl⟩ : ∃ g, f = g + 1 := ⟨f - 1, by simp at hf; omega⟩
  have e : 40 :: (tx t ++ [41]) ++ r = 40 :: (tx t ++ 41 :: r) := by simp
  rw [e] at hf ⊢
  unfold prs
  simp only [if_true]
  rw [h.a f (41 :: r) (by simp at hf ⊢; omega) (.inr rfl)]
  simp only [if_true]
/-- .. an atom as it is shown below a repetition. -/
theorem atom_q {t : T} (hk : okT t) (h : rd t) (f : Nat) (r : List Nat) (hf : 4 * (par (!isAtm t) (tx t) ++ r).length + 1 ≤ f) : prs f .atom (par (!isAtm t) (tx t) ++ r) = .ok t r := by
  by_cases ha : isAtm t = true
  · obtain ⟨f, rfl⟩ : ∃ g, f = g + 1 := ⟨f - 1, by omega⟩
    rw [ha]
    show prs (f + 1) .atom (tx t ++ r) = _
    match t, ha, hk with
    | .set a, _, hk => unfold tx; unfold okT at hk; exact set_atom hk.1 hk.2 f r
    | .emp, _, _ =>
      unfold tx
      obtain ⟨g, rfl⟩ : ∃ g, f = g + 3 := ⟨f - 3, by simp [par, isAtm, tx] at hf; omega⟩
      rfl
  · have hb : isAtm t = false := by simpa using ha
    rw [hb] at hf ⊢
    exact atom_par h f r hf
/-- A tree that is read as a rep is read as a cat, and so as an alt. -/
theorem cat_of_rep {t : T} (hk : okT t) (hr : ∀ f r, 4 * (tx t ++ r).length + 2 ≤ f → noRep r → prs f .rep (tx t ++ r) = .ok t r) (f : Nat) (r : List Nat) (hf : 4 * (tx t ++ r).length + 3 ≤ f) (he : endC r) : prs f (.cat []) (tx t ++ r) = .ok t r := by
  obtain ⟨f, rfl⟩ : ∃ g, f = g + 1 := ⟨f - 1, by omega⟩
  have hx := hr f r (by omega) he.rep
  obtain ⟨c, m, e, k1, _, _, _, _, k6⟩ := good_tx t hk
  rw [e, List.cons_append] at hx hf ⊢
  unfold prs
  simp only [if_neg (show ¬ (c = 124 ∨ c = 41) by rintro (h | h); exact k6 h; exact k1 h)]
  rw [hx]
  simp only
  obtain ⟨f, rfl⟩ : ∃ g, f = g + 1 := ⟨f - 1, by simp at hf; omega⟩
  rw [cat_stop he]
  rfl
theorem alt_of_cat {t : T} (hc : ∀ f r, 4 * (tx t ++ r).length + 3 ≤ f → endC r → prs f (.cat []) (tx t ++ r) = .ok t r) (f : Nat) (r : List Nat) (hf : 4 * (tx t ++ r).length + 4 ≤ f) (he : endA r) : prs f .alt (tx t ++ r) = .ok t r := by
  obtain ⟨f, rfl⟩ : ∃ g, f = g + 1 := ⟨f - 1, by omega⟩
  unfold prs
  rw [hc f r (by omega) he.c]
  simp only
  obtain ⟨f, rfl⟩ : ∃ g, f = g + 1 := ⟨f - 1, by omega⟩
  rw [alts_stop he]
  rfl
theorem rd_of_rep {t : T} (hk : okT t) (hr : ∀ f r, 4 * (tx t ++ r).length + 2 ≤ f → noRep r → prs f .rep (tx t ++ r) = .ok t r) : rd t :=
  ⟨fun f r hf he => alt_of_cat (fun f r hf he => cat_of_rep hk hr f r hf he) f r hf he, fun _ f r hf he => cat_of_rep hk hr f r hf he, fun _ _ => hr⟩
/-- A repetition behind what is shown as an atom. -/
theorem rep_step {t t' : T} (hk : okT t) (h : rd t) (w : List Nat) (c : Nat) (hw : ∀ r, ∃ m, w ++ r = c :: m ∧ ∀ g, prs (g + 1) (.reps t) (c :: m) = prs g (.reps t') r) (ht : tx t' = par (!isAtm t) (tx t) ++ w) (hl : 1 ≤ w.length) (f : Nat) (r : List Nat)
    (hf : 4 * (tx t' ++ r).length + 2 ≤ f) (hn : noRep r) : prs f .rep (tx t' ++ r) = .ok t' r := by
  obtain ⟨f, rfl⟩ : ∃ g, f = g + 1 := ⟨f - 1, by omega⟩
  rw [ht, List.append_assoc] at hf ⊢
  unfold prs
  rw [atom_q hk h f (w ++ r) (by omega)]
  obtain ⟨m, e, hm⟩ := hw r
  simp only
  have hlen : 1 ≤ (w ++ r).length := by rw [List.length_append]; omega
  rw [List.length_append] at hf
  obtain ⟨g, rfl⟩ : ∃ g, f = g + 2 := ⟨f - 2, by omega⟩
  rw [e, hm, reps_stop hn]
/-- A part of a cat: in parentheses, if it is an alt or a cat. -/
theorem part_rep {t : T} (h : rd t) (f : Nat) (r : List Nat) (hf : 4 * (par (isAlt t || isCat t) (tx t) ++ r).length + 2 ≤ f) (hn : noRep r) : prs f .rep (par (isAlt t || isCat t) (tx t) ++ r) = .ok t r := by
  by_cases hb : (isAlt t || isCat t) = true
  · rw [hb] at hf ⊢
    obtain ⟨f, rfl⟩ : ∃ g, f = g + 1 := ⟨f - 1, by omega⟩
    unfold prs
    have := atom_par h f r (by simp [par] at hf ⊢; omega)
    show (match prs f .atom (40 :: (tx t ++ [41]) ++ r) with | .err e k => _ | .ok t r1 => _) = _
    rw [this]
    simp only
    obtain ⟨f, rfl⟩ : ∃ g, f = g + 1 := ⟨f - 1, by omega⟩
    rw [reps_stop hn]
  · have hb' : (isAlt t || isCat t) = false := by simpa using hb
    rw [hb'] at hf ⊢
    simp only [Bool.or_eq_false_iff] at hb'
    exact h.r hb'.1 hb'.2 f r hf hn
theorem cat_loop (r : List Nat) (he : endC r) : ∀ (l : List T), okTs l → (∀ t ∈ l, rd t) → ∀ (acc : List T) (f : Nat), 4 * (txC l ++ r).length + 3 ≤ f → prs f (.cat acc) (txC l ++ r) = .ok (if acc ++ l = [] then .emp else many .cat (acc ++ l)) r
  | [], _, _, acc, f, hf => by
    obtain ⟨f, rfl⟩ : ∃ g, f = g + 1 := ⟨f - 1, by omega⟩
    unfold txC
    rw [List.nil_append, cat_stop he, List.append_nil]
  | t :: l, hk, hr, acc, f, hf => by
    obtain ⟨f, rfl⟩ : ∃ g, f = g + 1 := ⟨f - 1, by omega⟩
    unfold okTs at hk
    unfold txC at hf ⊢
    rw [List.append_assoc] at hf ⊢
    have hn : noRep (txC l ++ r) := by
      cases l with
      | nil => unfold txC; exact he.rep
      | cons u l => unfold txC; have h2 := hk.2; unfold okTs at h2; rw [List.append_assoc]; exact good_noRep (good_par (good_tx u h2.1))
    have hx := part_rep (hr t (by simp)) f (txC l ++ r) (by omega) hn
    obtain ⟨c, m, e, k1, _, _, _, _, k6⟩ := good_par (b := isAlt t || isCat t) (good_tx t hk.1)
    rw [e] at hx hf ⊢
    rw [List.cons_append] at hx hf ⊢
    unfold prs
    simp only [if_neg (show ¬ (c = 124 ∨ c = 41) by rintro (h | h); exact k6 h; exact k1 h)]
    rw [hx]
    simp only
    rw [cat_loop r he l hk.2 (fun u hu => hr u (by simp [hu])) (acc ++ [t]) f (by simp at hf ⊢; omega)]
    simp
/-- A part of an alt: in parentheses, if it is an alt. -/
theorem part_cat {t : T} (h : rd t) (f : Nat) (r : List Nat) (hf : 4 * (par (isAlt t) (tx t) ++ r).length + 3 ≤ f) (he : endC r) : prs f (.cat []) (par (isAlt t) (tx t) ++ r) = .ok t r := by
  by_cases hb : isAlt t = true
  · have hx := part_rep h (f - 1) r (by rw [hb] at hf ⊢; simp [par] at hf ⊢; omega) he.rep
    rw [hb] at hx hf ⊢
    obtain ⟨f, rfl⟩ : ∃ g, f = g + 1 := ⟨f - 1, by omega⟩
    rw [Bool.true_or, Nat.add_sub_cancel] at hx
    have e : par true (tx t) ++ r = 40 :: (tx t ++ [41] ++ r) := rfl
    rw [e] at hx hf ⊢
    unfold prs
    simp only [show ¬ ((40 : Nat) = 124 ∨ (40 : Nat) = 41) by decide, if_false]
    rw [hx]
    simp only
    obtain ⟨f, rfl⟩ : ∃ g, f = g + 1 := ⟨f - 1, by simp at hf; omega⟩
    rw [cat_stop he]
    rfl
  · have hb' : isAlt t = false := by simpa using hb
    rw [hb'] at hf ⊢
    exact h.c hb' f r hf he
theorem endC_B {r : List Nat} (he : endA r) : ∀ l : List T, endC (txB l ++ r)
  | [] => by unfold txB; exact he.c
  | t :: l => by unfold txB; exact .inr (.inr rfl)
theorem alt_loop (r : List Nat) (he : endA r) : ∀ (l : List T), okTs l → (∀ t ∈ l, rd t) → ∀ (acc : List T) (f : Nat), 4 * (txB l ++ r).length + 1 ≤ f → prs f (.alts acc) (txB l ++ r) = .ok (many .alt (acc ++ l)) r
  | [], _, _, acc, f, hf => by
    obtain ⟨f, rfl⟩ : ∃ g, f = g + 1 := ⟨f - 1, by omega⟩
    unfold txB
    rw [List.nil_append, alts_stop he, List.append_nil]
  | t :: l, hk, hr, acc, f, hf => by
    obtain ⟨f, rfl⟩ : ∃ g, f = g + 1 := ⟨f - 1, by omega⟩
    unfold okTs at hk
    unfold txB at hf ⊢
    rw [List.cons_append, List.append_assoc] at hf ⊢
    rw [List.length_cons] at hf
    unfold prs
    simp only [if_true]
    rw [part_cat (hr t (by simp)) f (txB l ++ r) (by omega) (endC_B he l)]
    simp only
    rw [alt_loop r he l hk.2 (fun u hu => hr u (by simp [hu])) (acc ++ [t]) f (by rw [List.length_append] at hf; omega)]
    simp
theorem many_two {g : List T → T} {l : List T} (h : 2 ≤ l.length) : many g l = g l := by
  match l, h with
  | a :: b :: l, _ => rfl
mutual
theorem rd_all : ∀ t : T, okT t → rd t
  | .set a, hk => rd_of_rep hk (fun f r hf hn => by
      obtain ⟨f, rfl⟩ : ∃ g, f = g + 2 := ⟨f - 2, by omega⟩
      have hk2 := hk
      unfold okT at hk2
      unfold tx
      rw [prs, set_atom hk2.1 hk2.2]
      exact reps_stop hn _ _)
  | .emp, hk => rd_of_rep hk (fun f r hf hn => by
      unfold tx at hf ⊢
      obtain ⟨f, rfl⟩ : ∃ g, f = g + 5 := ⟨f - 5, by simp at hf; omega⟩
      exact reps_stop hn _ _)
  | .star t, hk => by
    have hk2 := hk
    unfold okT at hk2
    exact rd_of_rep hk (rep_step hk2 (rd_all t hk2) [42] 42 (fun r => ⟨r, rfl, fun g => rfl⟩) (by rw [tx]) (by decide))
  | .plus t, hk => by
    have hk2 := hk
    unfold okT at hk2
    exact rd_of_rep hk (rep_step hk2 (rd_all t hk2) [43] 43 (fun r => ⟨r, rfl, fun g => rfl⟩) (by rw [tx]) (by decide))
  | .opt t, hk => by
    have hk2 := hk
    unfold okT at hk2
    exact rd_of_rep hk (rep_step hk2 (rd_all t hk2) [63] 63 (fun r => ⟨r, rfl, fun g => rfl⟩) (by rw [tx]) (by decide))
  | .rep lo hi t, hk => by
    have hk2 := hk
    unfold okT at hk2
    refine rd_of_rep hk (rep_step hk2.2.2 (rd_all t hk2.2.2) (timQ lo hi) 123 (fun r => ?_) (by rw [tx]) (by unfold timQ; simp))
    obtain ⟨m, e, _⟩ := tim_read hk2.1 hk2.2.1 0 r
    refine ⟨m, e, fun g => ?_⟩
    obtain ⟨m', e', h'⟩ := tim_read hk2.1 hk2.2.1 (m.length + 1) r
    rw [e] at e'
    injection e' with _ e'
    subst e'
    rw [prs]
    simp only [show ¬ ((123 : Nat) = 42) by decide, show ¬ ((123 : Nat) = 43) by decide, show ¬ ((123 : Nat) = 63) by decide, if_false, if_true]
    rw [h']
  | .cat l, hk => by
    have hk2 := hk
    unfold okT at hk2
    have hc : ∀ f r, 4 * (tx (.cat l) ++ r).length + 3 ≤ f → endC r → prs f (.cat []) (tx (.cat l) ++ r) = .ok (.cat l) r := fun f r hf he => by
      unfold tx at hf ⊢
      rw [cat_loop r he l hk2.2 (rd_alls l hk2.2) [] f hf, List.nil_append, if_neg (fun e => by rw [e] at hk2; exact absurd hk2.1 (by decide)), many_two hk2.1]
    exact ⟨fun f r hf he => alt_of_cat hc f r hf he, fun _ => hc, fun _ h => absurd h (by simp [isCat])⟩
  | .alt l, hk => by
    have hk2 := hk
    unfold okT at hk2
    refine ⟨fun f r hf he => ?_, fun h => absurd h (by simp [isAlt]), fun h => absurd h (by simp [isAlt])⟩
    match l, hk2 with
    | t :: l, hk2 =>
      have hk3 := hk2.2
      unfold okTs at hk3
      have hall := rd_alls (t :: l) hk2.2
      obtain ⟨f, rfl⟩ : ∃ g, f = g + 1 := ⟨f - 1, by omega⟩
      unfold tx txA at hf ⊢
      rw [List.append_assoc] at hf ⊢
      unfold prs
      rw [part_cat (hall t (by simp)) f (txB l ++ r) (by omega) (endC_B he l)]
      simp only
      rw [alt_loop r he l hk3.2 (fun u hu => hall u (by simp [hu])) [t] f (by rw [List.length_append] at hf; omega)]
      rw [show [t] ++ l = t :: l from rfl, many_two hk2.1]
    | [], hk2 => exact absurd hk2.1 (by simp)
theorem rd_alls : ∀ l : List T, okTs l → ∀ t ∈ l, rd t
  | [], _, _, h => by cases h
  | u :: l, hk, t, h => by
    unfold okTs at hk
    rcases List.mem_cons.1 h with e | h
    · rw [e]; exact rd_all u hk.1
    · exact rd_alls l hk.2 t h
end
/-- What is shown of a right tree of few enough nodes is read as that tree, if it is not too long. -/
theorem parse_show {t : T} (hk : okT t) (hn : (enc t).length ≤ 400) (hl : (tx t).length ≤ 512) : parseQ (tx t) = (0, 0, enc t) := by
  have h := (rd_all t hk).a (6 * (tx t).length + 6) [] (by rw [List.append_nil]; omega) (.inl rfl)
  rw [List.append_nil] at h
  unfold parseQ
  rw [if_neg (by omega), h]
  simp only [if_true]
  rw [if_neg (by omega)]
end Go.Proofs.Ythjelilmlbbalaa.Rt
namespace Go.Proofs.Ythjelilmlbbalaa.Ru
open Go.Proofs.Ythjelilmlbbalaa.Tm Go.Proofs.Ythjelilmlbbalaa.Ts Go.Proofs.Ythjelilmlbbalaa.Ta Go.Proofs.Ythjelilmlbbalaa.Tb Go.Proofs.Ythjelilmlbbalaa.Rm Go.Proofs.Ythjelilmlbbalaa.Rs Go.Proofs.Ythjelilmlbbalaa.Rt

/-- What is said of an outcome: of what is read; of an error. -/
def Out.all {α : Type} (o : Out α) (n : Nat) (p : α → Prop) : Prop := match o with
  | .err e _ => e ≠ 0
  | .ok x r => p x ∧ r.length < n
theorem num_all (r : List Nat) : Out.all (numP r) r.length (fun _ => True) := by
  unfold numP
  cases r with
  | nil => simp [Out.all]
  | cons c r =>
    simp only
    split
    · cases r with
      | nil => simp [Out.all]
      | cons d r' =>
        simp only
        split <;> simp [Out.all]
        omega
    · simp [Out.all]
theorem end_all (k lo : Nat) (hi : Int) (r : List Nat) : Out.all (endP k lo hi r) r.length (fun x => x.1 ≤ 30 ∧ (0 ≤ x.2 → (x.1 : Int) ≤ x.2 ∧ x.2 ≤ 30) ∧ x = (lo, hi)) := by
  unfold endP
  cases r with
  | nil => simp [Out.all]
  | cons c r =>
    simp only
    split
    · split
      · simp [Out.all]
      · simp [Out.all]; omega
    · simp [Out.all]
theorem all_mono {α : Type} {o : Out α} {n m : Nat} {p q : α → Prop} (h : Out.all o n p) (hn : n ≤ m) (hp : ∀ x, p x → q x) : Out.all o m q := by
  cases o with
  | err e k => exact h
  | ok x r => exact ⟨hp x h.1, Nat.lt_of_lt_of_le h.2 hn⟩
def timOk (x : Nat × Int) : Prop := x.1 ≤ 30 ∧ (x.2 = -1 ∨ ((x.1 : Int) ≤ x.2 ∧ x.2 ≤ 30))
theorem tim_of {k lo : Nat} {hi : Int} (hh : hi = -1 ∨ 0 ≤ hi) (r : List Nat) {n : Nat} (hn : r.length ≤ n) : Out.all (endP k lo hi r) n timOk := all_mono (end_all k lo hi r) hn (fun x ⟨h1, h2, h3⟩ => by
  refine ⟨h1, ?_⟩
  rcases hh with h | h
  · exact .inl (by rw [h3]; exact h)
  · exact .inr (h2 (by rw [h3]; exact h)))
theorem tim_all (k : Nat) (r : List Nat) : Out.all (timP k r) r.length timOk := by
  have h := num_all r
  unfold timP
  cases hn : numP r with
  | err e j => rw [hn] at h; exact h
  | ok lo r1 =>
    rw [hn] at h
    have h1 : r1.length < r.length := h.2
    dsimp only
    split
    · next r2 =>
      simp only [List.length_cons] at h1
      split
      · exact tim_of (.inl rfl) _ (by omega)
      · have h3 := num_all r2
        cases hn2 : numP r2 with
        | err e j => rw [hn2] at h3; exact h3
        | ok hi r3 =>
          rw [hn2] at h3
          have h4 : r3.length < r2.length := h3.2
          exact tim_of (.inr (by omega)) _ (by omega)
    · exact tim_of (.inr (by omega)) _ (by omega)
def setOk (a : List Nat) : Prop := isSet a ∧ a ≠ zero
theorem has_ne {a : List Nat} {c : Nat} (hc : c < 256) (h : has a c = true) : a ≠ zero := fun e => by rw [e, has_zero hc] at h; cases h
theorem one_ok (c : Nat) : setOk (one c) := ⟨one_set c, has_ne (c := c % 256) (by omega) (by
  unfold one
  rw [has_ofS _ (by omega)]
  simp)⟩
theorem dig_ok : setOk digS := ⟨frm_set _ _, has_ne (c := 48) (by decide) (by decide +kernel)⟩
theorem wor_ok : setOk worS := ⟨orL_set (one_set _) (orL_set (frm_set _ _) (orL_set (frm_set _ _) (frm_set _ _))), has_ne (c := 95) (by decide) (by decide +kernel)⟩
theorem dot_ok : setOk (notL (one 10)) := ⟨notL_set (one_set _), has_ne (c := 0) (by decide) (by decide +kernel)⟩
theorem esc_all (r : List Nat) : Out.all (escP r) r.length (fun x => setOk x.1) := by
  unfold escP
  cases r with
  | nil => simp [Out.all]
  | cons c r =>
    dsimp only
    repeat' split
    all_goals first
      | exact ⟨one_ok _, by simp only [List.length_cons]; omega⟩
      | exact ⟨dig_ok, by simp only [List.length_cons]; omega⟩
      | exact ⟨wor_ok, by simp only [List.length_cons]; omega⟩
      | simp [Out.all]
theorem chr_all (r : List Nat) : Out.all (chrP r) r.length (fun x => setOk x.1) := by
  unfold chrP
  cases r with
  | nil => simp [Out.all]
  | cons c r =>
    dsimp only
    split
    · exact all_mono (esc_all r) (by simp) (fun _ h => h)
    · split
      · simp [Out.all]
      · exact ⟨one_ok _, by simp⟩
theorem cls_all (k : Nat) (neg : Bool) : ∀ (f : Nat) (acc r : List Nat), isSet acc → r.length + 1 ≤ f → Out.all (clsP k neg f acc r) r.length setOk
  | 0, _, _, _, h => absurd h (by omega)
  | f + 1, acc, [], _, _ => by rw [clsP]; simp [Out.all]
  | f + 1, acc, c :: r, ha, hf => by
    rw [clsP]
    rw [List.length_cons] at hf
    split
    · have hs : isSet (if neg = true then notL acc else acc) := by
        split
        · exact notL_set ha
        · exact ha
      by_cases hz : (if neg = true then notL acc else acc) = zero
      · rw [if_pos hz]; simp [Out.all]
      · rw [if_neg hz]; exact ⟨⟨hs, hz⟩, by simp⟩
    · have h := chr_all (c :: r)
      cases hc : chrP (c :: r) with
      | err e j => rw [hc] at h; exact h
      | ok x r1 =>
        rw [hc] at h
        obtain ⟨x, o⟩ := x
        have h1 : r1.length < r.length + 1 := h.2
        have hx : isSet x := h.1.1
        dsimp only
        split
        · next r2 =>
          simp only [List.length_cons] at h1
          cases r2 with
          | nil => simp [Out.all]
          | cons d r3 =>
            dsimp only
            split
            · simp [Out.all]
            · have h3 := chr_all (d :: r3)
              cases hc2 : chrP (d :: r3) with
              | err e j => rw [hc2] at h3; exact h3
              | ok y r4 =>
                rw [hc2] at h3
                obtain ⟨y, o'⟩ := y
                have h4 : r4.length < r3.length + 1 := h3.2
                simp only [List.length_cons] at h1
                dsimp only
                cases o with
                | none => simp [Out.all]
                | some lo =>
                  cases o' with
                  | none => simp [Out.all]
                  | some hi =>
                    dsimp only
                    split
                    · simp [Out.all]
                    · exact all_mono (cls_all k neg f _ r4 (orL_set ha (frm_set _ _)) (by omega)) (by rw [List.length_cons]; omega) (fun _ h => h)
        · exact all_mono (cls_all k neg f _ r1 (orL_set ha hx) (by omega)) (by rw [List.length_cons]; omega) (fun _ h => h)

/-- How deep the reader goes at the most. -/
def need : Pt → Nat → Nat
  | .alt, n => 4 * n + 4
  | .cat _, n => 4 * n + 3
  | .rep, n => 4 * n + 2
  | .atom, n => 4 * n + 1
  | .alts _, n => 4 * n + 1
  | .reps _, n => 4 * n + 1
def pOk : Pt → Prop
  | .alts acc => acc ≠ [] ∧ okTs acc
  | .cat acc => okTs acc
  | .reps t => okT t
  | _ => True
/-- What is left is shorter, where an atom is read. -/
def lef : Pt → Nat → Nat
  | .rep, n => n
  | .atom, n => n
  | _, n => n + 1
theorem okTs_snoc : ∀ {l : List T} {t : T}, okTs l → okT t → okTs (l ++ [t])
  | [], _, _, h => by rw [List.nil_append]; unfold okTs; exact ⟨h, by unfold okTs; trivial⟩
  | u :: l, t, hl, h => by
    unfold okTs at hl
    rw [List.cons_append]; unfold okTs
    exact ⟨hl.1, okTs_snoc hl.2 h⟩
theorem many_alt {l : List T} (h0 : l ≠ []) (h : okTs l) : okT (many .alt l) := by
  match l, h0, h with
  | [t], _, h => unfold okTs at h; exact h.1
  | a :: b :: l, _, h => show okT (.alt (a :: b :: l)); unfold okT; exact ⟨by simp, h⟩
theorem many_cat {l : List T} (h : okTs l) : okT (if l = [] then .emp else many .cat l) := by
  match l, h with
  | [], _ => rw [if_pos rfl]; unfold okT; trivial
  | [t], h => unfold okTs at h; rw [if_neg (by simp)]; exact h.1
  | a :: b :: l, h => rw [if_neg (by simp)]; show okT (.cat (a :: b :: l)); unfold okT; exact ⟨by simp, h⟩
theorem prs_all : ∀ (f : Nat) (p : Pt) (r : List Nat), pOk p → need p r.length ≤ f → Out.all (prs f p r) (lef p r.length) okT
  | 0, p, r, _, h => by cases p <;> (simp only [need] at h; omega)
  | f + 1, .alt, r, _, h => by
    simp only [need] at h
    have h1 := prs_all f (.cat []) r (by unfold pOk okTs; trivial) (by simp only [need]; omega)
    rw [prs]
    cases hc : prs f (.cat []) r with
    | err e k => rw [hc] at h1; exact h1
    | ok t r1 =>
      rw [hc] at h1
      have h2 : r1.length < r.length + 1 := h1.2
      exact all_mono (prs_all f (.alts [t]) r1 ⟨by simp, by unfold okTs; exact ⟨h1.1, by unfold okTs; trivial⟩⟩ (by simp only [need]; omega)) (by simp only [lef]; omega) (fun _ h => h)
  | f + 1, .alts acc, r, hp, h => by
    simp only [need] at h
    cases r with
    | nil => rw [prs]; exact ⟨many_alt hp.1 hp.2, by simp [lef]⟩
    | cons c r1 =>
      rw [prs]
      rw [List.length_cons] at h
      split
      · have h1 := prs_all f (.cat []) r1 (by unfold pOk okTs; trivial) (by simp only [need]; omega)
        cases hc : prs f (.cat []) r1 with
        | err e k => rw [hc] at h1; exact h1
        | ok t r2 =>
          rw [hc] at h1
          have h2 : r2.length < r1.length + 1 := h1.2
          exact all_mono (prs_all f (.alts (acc ++ [t])) r2 ⟨by simp, okTs_snoc hp.2 h1.1⟩ (by simp only [need]; omega)) (by simp only [lef, List.length_cons]; omega) (fun _ h => h)
      · exact ⟨many_alt hp.1 hp.2, by simp [lef]⟩
  | f + 1, .cat acc, r, hp, h => by
    simp only [need] at h
    cases r with
    | nil => rw [prs]; exact ⟨many_cat hp, by simp [lef]⟩
    | cons c r1 =>
      rw [prs]
      rw [List.length_cons] at h
      split
      · exact ⟨many_cat hp, by simp [lef]⟩
      · have h1 := prs_all f .rep (c :: r1) (by unfold pOk; trivial) (by simp only [need, List.length_cons]; omega)
        cases hc : prs f .rep (c :: r1) with
        | err e k => rw [hc] at h1; exact h1
        | ok t r2 =>
          rw [hc] at h1
          have h2 : r2.length < r1.length + 1 := h1.2
          exact all_mono (prs_all f (.cat (acc ++ [t])) r2 (okTs_snoc hp h1.1) (by simp only [need]; omega)) (by simp only [lef, List.length_cons]; omega) (fun _ h => h)
  | f + 1, .rep, r, _, h => by
    simp only [need] at h
    have h1 := prs_all f .atom r (by unfold pOk; trivial) (by simp only [need]; omega)
    rw [prs]
    cases hc : prs f .atom r with
    | err e k => rw [hc] at h1; exact h1
    | ok t r1 =>
      rw [hc] at h1
      have h2 : r1.length < r.length := h1.2
      exact all_mono (prs_all f (.reps t) r1 h1.1 (by simp only [need]; omega)) (by simp only [lef]; omega) (fun _ h => h)
  | f + 1, .reps t, r, hp, h => by
    simp only [need] at h
    cases r with
    | nil => rw [prs]; exact ⟨hp, by simp [lef]⟩
    | cons c r1 =>
      rw [prs]
      rw [List.length_cons] at h
      have go : ∀ t' r', okT t' → r'.length ≤ r1.length → Out.all (prs f (.reps t') r') (lef (.reps t) (c :: r1).length) okT := fun t' r' ht hr => all_mono (prs_all f (.reps t') r' ht (by simp only [need]; omega)) (by simp only [lef, List.length_cons]; omega) (fun _ h => h)
      split
      · exact go _ _ (by unfold okT; exact hp) (Nat.le_refl _)
      · split
        · exact go _ _ (by unfold okT; exact hp) (Nat.le_refl _)
        · split
          · exact go _ _ (by unfold okT; exact hp) (Nat.le_refl _)
          · split
            · have h1 := tim_all (r1.length + 1) r1
              cases hc : timP (r1.length + 1) r1 with
              | err e k => rw [hc] at h1; exact h1
              | ok x r2 =>
                rw [hc] at h1
                obtain ⟨lo, hi⟩ := x
                have h2 : r2.length < r1.length := h1.2
                exact go _ _ (by unfold okT; exact ⟨h1.1.1, h1.1.2, hp⟩) (by omega)
            · exact ⟨hp, by simp [lef]⟩
  | f + 1, .atom, r, _, h => by
    simp only [need] at h
    cases r with
    | nil => unfold prs; simp [Out.all]
    | cons c r1 =>
      rw [List.length_cons] at h
      unfold prs
      dsimp only
      split
      · have h1 := prs_all f .alt r1 (by unfold pOk; trivial) (by simp only [need]; omega)
        cases hc : prs f .alt r1 with
        | err e k => rw [hc] at h1; exact h1
        | ok t r2 =>
          rw [hc] at h1
          have h2 : r2.length < r1.length + 1 := h1.2
          dsimp only
          cases r2 with
          | nil => simp [Out.all]
          | cons d r3 =>
            dsimp only
            rw [List.length_cons] at h2
            split
            · exact ⟨h1.1, by simp only [lef, List.length_cons]; omega⟩
            · simp [Out.all]
      · split
        · cases r1 with
          | nil => simp [Out.all]
          | cons d r2 =>
            dsimp only
            split
            · have h1 := cls_all ((d :: r2).length + 1) true (r2.length + 1) zero r2 zero_set (by omega)
              cases hc : clsP ((d :: r2).length + 1) true (r2.length + 1) zero r2 with
              | err e k => rw [hc] at h1; exact h1
              | ok a r3 =>
                rw [hc] at h1
                have h2 : r3.length < r2.length := h1.2
                exact ⟨by unfold okT; exact h1.1, by simp only [lef, List.length_cons]; omega⟩
            · have h1 := cls_all ((d :: r2).length + 1) false ((d :: r2).length + 1) zero (d :: r2) zero_set (by omega)
              cases hc : clsP ((d :: r2).length + 1) false ((d :: r2).length + 1) zero (d :: r2) with
              | err e k => rw [hc] at h1; exact h1
              | ok a r3 =>
                rw [hc] at h1
                have h2 : r3.length < (d :: r2).length := h1.2
                rw [List.length_cons] at h2
                exact ⟨by unfold okT; exact h1.1, by simp only [lef, List.length_cons]; omega⟩
        · split
          · exact ⟨by unfold okT; exact dot_ok, by simp [lef]⟩
          · split
            · have h1 := esc_all r1
              cases hc : escP r1 with
              | err e k => rw [hc] at h1; exact h1
              | ok a r2 =>
                rw [hc] at h1
                have h2 : r2.length < r1.length := h1.2
                exact ⟨by unfold okT; exact h1.1, by simp only [lef, List.length_cons]; omega⟩
            · split
              · simp [Out.all]
              · exact ⟨by unfold okT; exact one_ok _, by simp [lef]⟩
/-- What is read: an error that has a number and no nodes, or a right tree of at most 400 nodes. -/
theorem parse_all (s : List Nat) : (∃ e p, parseQ s = (e, p, []) ∧ e ≠ 0 ∧ (p ≤ s.length ∨ 512 < s.length ∧ p = 512)) ∨ ∃ t, okT t ∧ (enc t).length ≤ 400 ∧ parseQ s = (0, 0, enc t) := by
  unfold parseQ
  split
  · next h => exact .inl ⟨3, 512, rfl, by decide, .inr ⟨h, rfl⟩⟩
  · have h := prs_all (6 * s.length + 6) .alt s (by unfold pOk; trivial) (by simp only [need]; omega)
    cases hc : prs (6 * s.length + 6) .alt s with
    | err e k => rw [hc] at h; exact .inl ⟨e, s.length - k, rfl, h, .inl (Nat.sub_le _ _)⟩
    | ok t r =>
      rw [hc] at h
      dsimp only
      split
      · split
        · exact .inl ⟨3, 0, rfl, by decide, .inl (Nat.zero_le _)⟩
        · next h4 => exact .inr ⟨t, h.1, by omega, rfl⟩
      · exact .inl ⟨15, s.length - r.length, rfl, by decide, .inl (Nat.sub_le _ _)⟩
end Go.Proofs.Ythjelilmlbbalaa.Ru
namespace Go.Proofs.Ythjelilmlbbalaa.Rv
open Go.Proofs.Ythjelilmlbbalaa.Tm Go.Proofs.Ythjelilmlbbalaa.Ts Go.Proofs.Ythjelilmlbbalaa.Ta Go.Proofs.Ythjelilmlbbalaa.Rm

/-- How many nodes w trees are; N: how many nodes there are in all. -/
def endW (N : Nat) : List Nd → Nat → Option Nat
  | [], _ => none
  | x :: l, w => if x.n < 0 ∨ (N : Int) < x.n then none else if w - 1 + x.n.toNat = 0 then some 1 else (endW N l (w - 1 + x.n.toNat)).map (· + 1)
mutual
theorem enc_pos : ∀ t : T, 1 ≤ (enc t).length
  | .set a => by simp [enc]
  | .emp => by simp [enc]
  | .cat l => by simp [enc]
  | .alt l => by simp [enc]
  | .star t => by simp [enc]
  | .plus t => by simp [enc]
  | .opt t => by simp [enc]
  | .rep lo hi t => by simp [enc]
theorem encs_le : ∀ l : List T, l.length ≤ (encs l).length
  | [] => by simp [encs]
  | t :: l => by
    have h1 := enc_pos t
    have h2 := encs_le l
    rw [encs, List.length_append, List.length_cons]
    omega
end
/-- One node that has so many children. -/
theorem endW_node {N : Nat} {x : Nd} {k w : Nat} (hx : x.n = (k : Int)) (hk : k ≤ N) (l : List Nd) : endW N (x :: l) (w + 1) = if w + k = 0 then some 1 else (endW N l (w + k)).map (· + 1) := by
  rw [endW, if_neg (by omega), hx, Int.toNat_natCast, Nat.add_sub_cancel]
theorem map_comm {o : Option Nat} (a b : Nat) : (o.map (· + a)).map (· + b) = o.map (· + (a + b)) := by
  cases o with
  | none => rfl
  | some x => simp [Nat.add_assoc]
mutual
/-- Behind a tree w trees are lacking. -/
theorem endW_enc (N : Nat) : ∀ (t : T) (r : List Nd) (w : Nat), (enc t).length ≤ N → endW N (enc t ++ r) (w + 1) = if w = 0 then some (enc t).length else (endW N r w).map (· + (enc t).length)
  | .set a, r, w, _ => by rw [enc, List.cons_append, endW_node (k := 0) rfl (by omega)]; rfl
  | .emp, r, w, _ => by rw [enc, List.cons_append, endW_node (k := 0) rfl (by omega)]; rfl
  | .cat l, r, w, h => by
    rw [enc] at h ⊢
    rw [List.length_cons] at h
    have := encs_le l
    rw [List.cons_append, endW_node (k := l.length) rfl (by omega), Nat.add_comm w]
    exact endW_tail N l r w (by omega) (endW_encs N l r w (by omega))
  | .alt l, r, w, h => by
    rw [enc] at h ⊢
    rw [List.length_cons] at h
    have := encs_le l
    rw [List.cons_append, endW_node (k := l.length) rfl (by omega), Nat.add_comm w]
    exact endW_tail N l r w (by omega) (endW_encs N l r w (by omega))
  | .star t, r, w, h => by
    rw [enc] at h ⊢
    rw [List.length_cons] at h
    rw [List.cons_append, endW_node (k := 1) rfl (by have := enc_pos t; omega), if_neg (by omega), endW_enc N t r w (by omega), List.length_cons]
    split
    · rfl
    · exact map_comm _ _
  | .plus t, r, w, h => by
    rw [enc] at h ⊢
    rw [List.length_cons] at h
    rw [List.cons_append, endW_node (k := 1) rfl (by have := enc_pos t; omega), if_neg (by omega), endW_enc N t r w (by omega), List.length_cons]
    split
    · rfl
    · exact map_comm _ _
  | .opt t, r, w, h => by
    rw [enc] at h ⊢
    rw [List.length_cons] at h
    rw [List.cons_append, endW_node (k := 1) rfl (by have := enc_pos t; omega), if_neg (by omega), endW_enc N t r w (by omega), List.length_cons]
    split
    · rfl
    · exact map_comm _ _
  | .rep lo hi t, r, w, h => by
    rw [enc] at h ⊢
    rw [List.length_cons] at h
    rw [List.cons_append, endW_node (k := 1) rfl (by have := enc_pos t; omega), if_neg (by omega), endW_enc N t r w (by omega), List.length_cons]
    split
    · rfl
    · exact map_comm _ _
theorem endW_encs (N : Nat) : ∀ (l : List T) (r : List Nd) (w : Nat), (encs l).length ≤ N → l ≠ [] → endW N (encs l ++ r) (l.length + w) = if w = 0 then some (encs l).length else (endW N r w).map (· + (encs l).length)
  | [], _, _, _, h => absurd rfl h
  | t :: l, r, w, h, _ => by
    rw [encs, List.length_append] at h
    rw [encs, List.append_assoc, List.length_cons, show l.length + 1 + w = (l.length + w) + 1 by omega, endW_enc N t (encs l ++ r) (l.length + w) (by omega), List.length_append]
    by_cases hl : l = []
    · subst hl
      simp only [List.length_nil, Nat.zero_add, encs, List.nil_append, Nat.add_zero]
    · have hp : 0 < l.length := List.length_pos_iff.2 hl
      rw [if_neg (by omega), endW_encs N l r w (by omega) hl]
      split
      · simp [Nat.add_comm]
      · rw [map_comm, Nat.add_comm]
theorem endW_tail (N : Nat) (l : List T) (r : List Nd) (w : Nat) (_ : (encs l).length ≤ N) (h : l ≠ [] → endW N (encs l ++ r) (l.length + w) = if w = 0 then some (encs l).length else (endW N r w).map (· + (encs l).length)) :
    (if l.length + w = 0 then some 1 else (endW N (encs l ++ r) (l.length + w)).map (· + 1)) = if w = 0 then some ((encs l).length + 1) else (endW N r w).map (· + ((encs l).length + 1)) := by
  by_cases hl : l = []
  · subst hl
    simp only [List.length_nil, Nat.zero_add, encs, List.nil_append]
  · have hp : 0 < l.length := List.length_pos_iff.2 hl
    rw [if_neg (by omega), h hl]
    split
    · rfl
    · exact map_comm _ _
end
/-- A node has what its kind asks. -/
def right (x : Nd) : Prop :=
  (x.k = 1 ∧ x.n = 0 ∧ x.s ≠ zero ∧ x.lo = 0 ∧ x.hi = 0) ∨ (x.k = 2 ∧ x.n = 0 ∧ x.s = zero ∧ x.lo = 0 ∧ x.hi = 0) ∨ ((x.k = 3 ∨ x.k = 4) ∧ 2 ≤ x.n ∧ x.s = zero ∧ x.lo = 0 ∧ x.hi = 0)
    ∨ ((x.k = 5 ∨ x.k = 6 ∨ x.k = 7) ∧ x.n = 1 ∧ x.s = zero ∧ x.lo = 0 ∧ x.hi = 0) ∨ (x.k = 8 ∧ x.n = 1 ∧ x.s = zero ∧ 0 ≤ x.lo ∧ x.lo ≤ 30 ∧ (x.hi = -1 ∨ (x.lo ≤ x.hi ∧ x.hi ≤ 30)))
theorem okTs_app : ∀ {a b : List T}, okTs (a ++ b) ↔ okTs a ∧ okTs b
  | [], b => by
    rw [List.nil_append]
    exact ⟨fun h => ⟨by unfold okTs; trivial, h⟩, fun h => h.2⟩
  | t :: a, b => by
    have e : ∀ l, okTs (t :: l) ↔ (okT t ∧ okTs l) := fun l => by
      conv => lhs; unfold okTs
    rw [List.cons_append, e, e, okTs_app (a := a) (b := b), and_assoc]
theorem encs_app : ∀ (a b : List T), encs (a ++ b) = encs a ++ encs b
  | [], b => by rw [List.nil_append, encs, List.nil_append]
  | t :: a, b => by rw [List.cons_append, encs, encs, encs_app a b, List.append_assoc]
/-- A node and its children are a tree. -/
theorem node_tree {x : Nd} (hs : isSet x.s) (hr : right x) {ts : List T} (hl : (ts.length : Int) = x.n) (hk : okTs ts) : ∃ t, okT t ∧ enc t = x :: encs ts := by
  obtain ⟨k, n, s, lo, hi⟩ := x
  have one : ts.length = 1 → ∃ t, ts = [t] ∧ okT t ∧ encs ts = enc t := fun h => by
    obtain ⟨t, rfl⟩ := List.length_eq_one_iff.1 h
    unfold okTs at hk
    exact ⟨t, rfl, hk.1, by rw [encs, encs, List.append_nil]⟩
  simp only at hs hl
  rcases hr with ⟨h1, h2, h3, h4, h5⟩ | ⟨h1, h2, h3, h4, h5⟩ | ⟨h1, h2, h3, h4, h5⟩ | ⟨h1, h2, h3, h4, h5⟩ | ⟨h1, h2, h3, h4, h5, h6⟩ <;> simp only at h1 h2 h3 h4 h5
  · have e : ts = [] := List.eq_nil_of_length_eq_zero (by omega)
    subst e; subst h1; subst h2; subst h4; subst h5
    exact ⟨.set s, by unfold okT; exact ⟨hs, h3⟩, by rw [enc, encs]⟩
  · have e : ts = [] := List.eq_nil_of_length_eq_zero (by omega)
    subst e; subst h1; subst h2; subst h3; subst h4; subst h5
    exact ⟨.emp, by unfold okT; trivial, by rw [enc, encs]⟩
  · subst h3; subst h4; subst h5; subst hl
    rcases h1 with h1 | h1 <;> subst h1
    · exact ⟨.cat ts, by unfold okT; exact ⟨by omega, hk⟩, by rw [enc]⟩
    · exact ⟨.alt ts, by unfold okT; exact ⟨by omega, hk⟩, by rw [enc]⟩
  · obtain ⟨t, rfl, hk2, he⟩ := one (by omega)
    rw [he]
    subst h2; subst h3; subst h4; subst h5
    rcases h1 with h1 | h1 | h1 <;> subst h1
    · exact ⟨.star t, by unfold okT; exact hk2, by rw [enc]⟩
    · exact ⟨.plus t, by unfold okT; exact hk2, by rw [enc]⟩
    · exact ⟨.opt t, by unfold okT; exact hk2, by rw [enc]⟩
  · obtain ⟨t, rfl, hk2, he⟩ := one (by omega)
    rw [he]
    simp only at h6
    subst h1; subst h2; subst h3
    obtain ⟨m, rfl⟩ := Int.eq_ofNat_of_zero_le h4
    exact ⟨.rep m hi t, by unfold okT; exact ⟨by omega, h6, hk2⟩, by rw [enc]⟩
/-- w trees stand there, if the count comes to its end. -/
theorem trees_of (N : Nat) : ∀ (l : List Nd) (w k : Nat), 1 ≤ w → (∀ x ∈ l, isSet x.s ∧ right x) → endW N l w = some k → ∃ ts r, okTs ts ∧ ts.length = w ∧ l = encs ts ++ r ∧ (encs ts).length = k
  | [], _, _, _, _, h => by rw [endW] at h; cases h
  | x :: l, w, k, hw, hl, h => by
    rw [endW] at h
    split at h
    · cases h
    · next hn =>
      obtain ⟨m, hm⟩ := Int.eq_ofNat_of_zero_le (show 0 ≤ x.n by omega)
      have hx := hl x (by simp)
      by_cases h0 : w - 1 + x.n.toNat = 0
      · rw [if_pos h0] at h
        injection h with h
        obtain ⟨t, ht, he⟩ := node_tree (ts := []) hx.1 hx.2 (by rw [List.length_nil]; omega) (by unfold okTs; trivial)
        refine ⟨[t], l, by unfold okTs; exact ⟨ht, by unfold okTs; trivial⟩, by simp; omega, ?_, ?_⟩
        · rw [encs, encs, List.append_nil, he, encs]; rfl
        · rw [encs, encs, List.append_nil, he, encs, ← h]; rfl
      · rw [if_neg h0] at h
        cases hq : endW N l (w - 1 + x.n.toNat) with
        | none => rw [hq] at h; cases h
        | some k' =>
          rw [hq] at h
          injection h with h
          obtain ⟨ts, r, g1, g2, g3, g4⟩ := trees_of N l _ k' (by omega) (fun y hy => hl y (by simp [hy])) hq
          have hts : ts = ts.take m ++ ts.drop m := (List.take_append_drop m ts).symm
          have hmk : m ≤ ts.length := by rw [g2]; omega
          rw [hts] at g1
          obtain ⟨q1, q2⟩ := okTs_app.1 g1
          obtain ⟨t, ht, he⟩ := node_tree (ts := ts.take m) hx.1 hx.2 (by rw [List.length_take, Nat.min_eq_left hmk, hm]) q1
          refine ⟨t :: ts.drop m, r, by unfold okTs; exact ⟨ht, q2⟩, by rw [List.length_cons, List.length_drop, g2]; omega, ?_, ?_⟩
          · rw [encs, he, g3]
            conv => lhs; rw [hts, encs_app]
            simp
          · rw [encs, he, ← h, ← g4]
            conv => rhs; rw [hts, encs_app]
            simp only [List.length_append, List.length_cons]
            omega
mutual
/-- Each node of a right tree is right. -/
theorem right_enc : ∀ t : T, okT t → ∀ x ∈ enc t, isSet x.s ∧ right x
  | .set a, hk, x, hx => by
    unfold okT at hk
    rw [enc] at hx
    obtain rfl := List.mem_singleton.1 hx
    exact ⟨hk.1, .inl ⟨rfl, rfl, hk.2, rfl, rfl⟩⟩
  | .emp, _, x, hx => by
    rw [enc] at hx
    obtain rfl := List.mem_singleton.1 hx
    exact ⟨zero_set, .inr (.inl ⟨rfl, rfl, rfl, rfl, rfl⟩)⟩
  | .cat l, hk, x, hx => by
    unfold okT at hk
    rw [enc] at hx
    rcases List.mem_cons.1 hx with rfl | hx
    · exact ⟨zero_set, .inr (.inr (.inl ⟨.inl rfl, by simp only; omega, rfl, rfl, rfl⟩))⟩
    · exact right_encs l hk.2 x hx
  | .alt l, hk, x, hx => by
    unfold okT at hk
    rw [enc] at hx
    rcases List.mem_cons.1 hx with rfl | hx
    · exact ⟨zero_set, .inr (.inr (.inl ⟨.inr rfl, by simp only; omega, rfl, rfl, rfl⟩))⟩
    · exact right_encs l hk.2 x hx
  | .star t, hk, x, hx => by
    unfold okT at hk
    rw [enc] at hx
    rcases List.mem_cons.1 hx with rfl | hx
    · exact ⟨zero_set, .inr (.inr (.inr (.inl ⟨.inl rfl, rfl, rfl, rfl, rfl⟩)))⟩
    · exact right_enc t hk x hx
  | .plus t, hk, x, hx => by
    unfold okT at hk
    rw [enc] at hx
    rcases List.mem_cons.1 hx with rfl | hx
    · exact ⟨zero_set, .inr (.inr (.inr (.inl ⟨.inr (.inl rfl), rfl, rfl, rfl, rfl⟩)))⟩
    · exact right_enc t hk x hx
  | .opt t, hk, x, hx => by
    unfold okT at hk
    rw [enc] at hx
    rcases List.mem_cons.1 hx with rfl | hx
    · exact ⟨zero_set, .inr (.inr (.inr (.inl ⟨.inr (.inr rfl), rfl, rfl, rfl, rfl⟩)))⟩
    · exact right_enc t hk x hx
  | .rep lo hi t, hk, x, hx => by
    unfold okT at hk
    rw [enc] at hx
    rcases List.mem_cons.1 hx with rfl | hx
    · exact ⟨zero_set, .inr (.inr (.inr (.inr ⟨rfl, rfl, rfl, by simp only; omega, by simp only; omega, hk.2.1⟩)))⟩
    · exact right_enc t hk.2.2 x hx
theorem right_encs : ∀ l : List T, okTs l → ∀ x ∈ encs l, isSet x.s ∧ right x
  | [], _, x, hx => by rw [encs] at hx; cases hx
  | t :: l, hk, x, hx => by
    unfold okTs at hk
    rw [encs] at hx
    rcases List.mem_append.1 hx with hx | hx
    · exact right_enc t hk.1 x hx
    · exact right_encs l hk.2 x hx
end
/-- One tree at the beginning. -/
theorem tree_of {N : Nat} {l : List Nd} {k : Nat} (hl : ∀ x ∈ l, isSet x.s ∧ right x) (h : endW N l 1 = some k) : ∃ t r, okT t ∧ l = enc t ++ r ∧ (enc t).length = k := by
  obtain ⟨ts, r, g1, g2, g3, g4⟩ := trees_of N l 1 k (Nat.le_refl _) hl h
  obtain ⟨t, rfl⟩ := List.length_eq_one_iff.1 g2
  unfold okTs at g1
  rw [encs, encs, List.append_nil] at g3 g4
  exact ⟨t, r, g1.1, g3, g4⟩
/-- A list is one right tree just if it is whole and each node is right. -/
theorem check_iff {l : List Nd} (hs : ∀ x ∈ l, isSet x.s) : (endW l.length l 1 = some l.length ∧ ∀ x ∈ l, right x) ↔ ∃ t, okT t ∧ l = enc t := by
  constructor
  · rintro ⟨h1, h2⟩
    obtain ⟨t, r, g1, g2, g3⟩ := tree_of (fun x hx => ⟨hs x hx, h2 x hx⟩) h1
    have : r = [] := by
      have := congrArg List.length g2
      rw [List.length_append] at this
      exact List.eq_nil_of_length_eq_zero (by omega)
    rw [this, List.append_nil] at g2
    exact ⟨t, g1, g2⟩
  · rintro ⟨t, ht, rfl⟩
    refine ⟨?_, fun x hx => (right_enc t ht x hx).2⟩
    have := endW_enc (enc t).length t [] 0 (Nat.le_refl _)
    rw [List.append_nil, if_pos rfl] at this
    exact this
mutual
/-- Which trees match the empty text. -/
def emQ : T → Bool
  | .set _ => false
  | .emp => true
  | .cat l => emA l
  | .alt l => emO l
  | .star _ => true
  | .plus t => emQ t
  | .opt _ => true
  | .rep lo _ t => decide (lo = 0) || emQ t
def emA : List T → Bool
  | [] => true
  | t :: l => emQ t && emA l
def emO : List T → Bool
  | [] => false
  | t :: l => emQ t || emO l
end
end Go.Proofs.Ythjelilmlbbalaa.Rv
namespace Go.Proofs.Ythjelilmlbbalaa.Ra
open Go.RowKit Go.Proofs.Ythjelilmlbbalaa.Vm Go.Proofs.Ythjelilmlbbalaa.Vo Go.Proofs.Ythjelilmlbbalaa.Bw Go.Proofs.Ythjelilmlbbalaa.Na Go.Proofs.Ythjelilmlbbalaa.Tm Go.Proofs.Ythjelilmlbbalaa.Ta Go.Proofs.Ythjelilmlbbalaa.Tb Go.Proofs.Ythjelilmlbbalaa.Tf Go.Proofs.Ythjelilmlbbalaa.Rm Go.Proofs.Ythjelilmlbbalaa.Rv

def in64 (z : Int) : Prop := -9223372036854775808 ≤ z ∧ z ≤ 9223372036854775807
/-- A node's cells lie at a place. -/
structure nd1 (w : World) (b j : Nat) (x : Nd) : Prop where
  s : isSet x.s
  ik : in64 x.k
  ikn : in64 x.n
  il : in64 x.lo
  ih : in64 x.hi
  c0 : w.cell? ⟨b, j, none⟩ = some (.int .i64 x.k)
  c1 : w.cell? ⟨b, j + 1, none⟩ = some (.int .i64 x.n)
  cs : ∀ (i y : Nat), x.s[i]? = some y → w.cell? ⟨b, j + 2 + i, none⟩ = some (.int .u64 (y : Int))
  c6 : w.cell? ⟨b, j + 6, none⟩ = some (.int .i64 x.lo)
  c7 : w.cell? ⟨b, j + 7, none⟩ = some (.int .i64 x.hi)
theorem nd1.below {w w' : World} {b j : Nat} {x : Nd} (h : nd1 w b j x) (hb : b < w.heap.size) (k : Below w.heap.size w w') : nd1 w' b j x := by
  have hc : ∀ i, w'.cell? ⟨b, i, none⟩ = w.cell? ⟨b, i, none⟩ := fun i => k.cell (p := ⟨b, i, none⟩) hb
  exact ⟨h.s, h.ik, h.ikn, h.il, h.ih, (hc _).trans h.c0, (hc _).trans h.c1, fun i y hy => (hc _).trans (h.cs i y hy), (hc _).trans h.c6, (hc _).trans h.c7⟩
/-- A row of nodes that is read. -/
def nds (w : World) (A : Option Addr) (l : List Nd) : Prop := ∀ i x, l[i]? = some x → ∃ b off : Nat, A = some ⟨b, off, none⟩ ∧ b < w.heap.size ∧ nd1 w b (off + i * 8) x
theorem nds.below {w w' : World} {A : Option Addr} {l : List Nd} (h : nds w A l) (k : Below w.heap.size w w') : nds w' A l := fun i x hi => by
  obtain ⟨b, off, rfl, hb, hp⟩ := h i x hi
  exact ⟨b, off, rfl, Nat.lt_of_lt_of_le hb k.size, hp.below hb k⟩
theorem nds_nil (w : World) (A : Option Addr) : nds w A [] := fun i x h => by simp at h
/-- The four words. -/
theorem nd1.four {w : World} {b j : Nat} {x : Nd} (h : nd1 w b j x) : ∃ x0 x1 x2 x3 : Nat, x.s = [x0, x1, x2, x3] ∧ w.cell? ⟨b, j + 2, none⟩ = some (.int .u64 (x0 : Int)) ∧ w.cell? ⟨b, j + 3, none⟩ = some (.int .u64 (x1 : Int)) ∧ w.cell? ⟨b, j + 4, none⟩ = some (.int .u64 (x2 : Int)) ∧ w.cell? ⟨b, j + 5, none⟩ = some (.int .u64 (x3 : Int)) := by
  obtain ⟨x0, x1, x2, x3, e⟩ := four_of h.s
  exact ⟨x0, x1, x2, x3, e, h.cs 0 x0 (by rw [e]; rfl), h.cs 1 x1 (by rw [e]; rfl), h.cs 2 x2 (by rw [e]; rfl), h.cs 3 x3 (by rw [e]; rfl)⟩
theorem cellsN : Try.prog.cellsOf 79 = 8 := by kernel_rfl
theorem infoN : (Try.prog.info? 79).map (·.size) = some 8 := by kernel_rfl
/-- Where a tree at a place ends; -1: it does not. -/
def endA (i : Int) : Option Nat → Int
  | none => -1
  | some m => i + (m : Int)
def endI (l : List Nd) (i : Int) : Int := if i < 0 then -1 else endA i (endW l.length (l.drop i.toNat) 1)
end Go.Proofs.Ythjelilmlbbalaa.Ra
namespace Go.Proofs.Ythjelilmlbbalaa.Am
open Go.Proofs.Ythjelilmlbbalaa.Tm Go.Proofs.Ythjelilmlbbalaa.Rm Go.Proofs.Ythjelilmlbbalaa.Rv

/-- Any number of times. -/
inductive RT (r : Nat → Nat → Prop) : Nat → Nat → Prop where
  | refl (p : Nat) : RT r p p
  | step {p m q : Nat} (h : r p m) (k : RT r m q) : RT r p q
/-- So many times. -/
def IT (r : Nat → Nat → Prop) : Nat → Nat → Nat → Prop
  | 0, p, q => p = q
  | k + 1, p, q => ∃ m, r p m ∧ IT r k m q
section
variable {r r' : Nat → Nat → Prop}
theorem RT.one {p q : Nat} (h : r p q) : RT r p q := .step h (.refl q)
theorem RT.trans {p m q : Nat} (h : RT r p m) (k : RT r m q) : RT r p q := by
  induction h with
  | refl => exact k
  | step h _ ih => exact .step h (ih k)
theorem RT.mono (hr : ∀ p q, r p q → r' p q) {p q : Nat} (h : RT r p q) : RT r' p q := by
  induction h with
  | refl => exact .refl _
  | step h _ ih => exact .step (hr _ _ h) ih
theorem RT.iter {p q : Nat} : RT r p q ↔ ∃ k, IT r k p q := by
  constructor
  · intro h
    induction h with
    | refl p => exact ⟨0, rfl⟩
    | step h _ ih => obtain ⟨k, hk⟩ := ih; exact ⟨k + 1, _, h, hk⟩
  · rintro ⟨k, h⟩
    induction k generalizing p with
    | zero => obtain rfl : p = q := h
              exact .refl _
    | succ k ih => obtain ⟨m, h1, h2⟩ := h; exact .step h1 (ih h2)
theorem IT.add {a b p q : Nat} : IT r (a + b) p q ↔ ∃ m, IT r a p m ∧ IT r b m q := by
  induction a generalizing p with
  | zero => rw [Nat.zero_add]; exact ⟨fun h => ⟨p, rfl, h⟩, fun ⟨m, e, h⟩ => by obtain rfl : p = m := e; exact h⟩
  | succ a ih =>
    rw [Nat.succ_add]
    constructor
    · rintro ⟨m, h1, h2⟩
      obtain ⟨x, h3, h4⟩ := ih.1 h2
      exact ⟨x, ⟨m, h1, h3⟩, h4⟩
    · rintro ⟨x, ⟨m, h1, h3⟩, h4⟩
      exact ⟨m, h1, ih.2 ⟨x, h3, h4⟩⟩
theorem IT.snoc {a p q : Nat} : IT r (a + 1) p q ↔ ∃ m, IT r a p m ∧ r m q := by
  rw [IT.add]
  exact ⟨fun ⟨m, h, x, h1, e⟩ => ⟨m, h, by obtain rfl : x = q := e; exact h1⟩, fun ⟨m, h, h1⟩ => ⟨m, h, q, h1, rfl⟩⟩
/-- Or not at all. -/
def opt (r : Nat → Nat → Prop) (p q : Nat) : Prop := p = q ∨ r p q
theorem IT.opt {k p q : Nat} : IT (opt r) k p q ↔ ∃ j, j ≤ k ∧ IT r j p q := by
  induction k generalizing p with
  | zero =>
    refine ⟨fun h => ⟨0, Nat.le_refl _, h⟩, fun ⟨j, hj, h⟩ => ?_⟩
    obtain rfl : j = 0 := by omega
    exact h
  | succ k ih =>
    constructor
    · rintro ⟨m, h1, h2⟩
      obtain ⟨j, hj, h3⟩ := ih.1 h2
      rcases h1 with rfl | h1
      · exact ⟨j, by omega, h3⟩
      · exact ⟨j + 1, by omega, m, h1, h3⟩
    · rintro ⟨j, hj, h⟩
      cases j with
      | zero => obtain rfl : p = q := h
                exact ⟨p, .inl rfl, ih.2 ⟨0, by omega, rfl⟩⟩
      | succ j => obtain ⟨m, h1, h2⟩ := h
                  exact ⟨m, .inr h1, ih.2 ⟨j, by omega, h2⟩⟩
/-- Low to high times. -/
theorem IT.range {lo hi p q : Nat} (h : lo ≤ hi) : (∃ m, IT r lo p m ∧ IT (Am.opt r) (hi - lo) m q) ↔ ∃ k, lo ≤ k ∧ k ≤ hi ∧ IT r k p q := by
  constructor
  · rintro ⟨m, h1, h2⟩
    obtain ⟨j, hj, h3⟩ := IT.opt.1 h2
    exact ⟨lo + j, by omega, by omega, IT.add.2 ⟨m, h1, h3⟩⟩
  · rintro ⟨k, h1, h2, h3⟩
    obtain ⟨j, rfl⟩ : ∃ j, k = lo + j := ⟨k - lo, by omega⟩
    obtain ⟨m, h4, h5⟩ := IT.add.1 h3
    exact ⟨m, h4, IT.opt.2 ⟨j, by omega, h5⟩⟩
theorem IT.from' {lo p q : Nat} : (∃ m, IT r lo p m ∧ RT r m q) ↔ ∃ k, lo ≤ k ∧ IT r k p q := by
  constructor
  · rintro ⟨m, h1, h2⟩
    obtain ⟨j, h3⟩ := RT.iter.1 h2
    exact ⟨lo + j, by omega, IT.add.2 ⟨m, h1, h3⟩⟩
  · rintro ⟨k, h1, h3⟩
    obtain ⟨j, rfl⟩ : ∃ j, k = lo + j := ⟨k - lo, by omega⟩
    obtain ⟨m, h4, h5⟩ := IT.add.1 h3
    exact ⟨m, h4, RT.iter.2 ⟨j, h5⟩⟩
end
mutual
/-- The tree matches what stands between two places. -/
def mt (s : List Nat) : T → Nat → Nat → Prop
  | .set a, p, q => q = p + 1 ∧ ∃ c, s[p]? = some c ∧ has a c = true
  | .emp, p, q => p = q
  | .cat l, p, q => mtC s l p q
  | .alt l, p, q => mtA s l p q
  | .star t, p, q => RT (fun x y => mt s t x y) p q
  | .plus t, p, q => ∃ m, mt s t p m ∧ RT (fun x y => mt s t x y) m q
  | .opt t, p, q => p = q ∨ mt s t p q
  | .rep lo hi t, p, q => ∃ k, lo ≤ k ∧ (hi < 0 ∨ (k : Int) ≤ hi) ∧ IT (fun x y => mt s t x y) k p q
def mtC (s : List Nat) : List T → Nat → Nat → Prop
  | [], p, q => p = q
  | t :: l, p, q => ∃ m, mt s t p m ∧ mtC s l m q
def mtA (s : List Nat) : List T → Nat → Nat → Prop
  | [], _, _ => False
  | t :: l, p, q => mt s t p q ∨ mtA s l p q
end
/-- Within a text's places. -/
def inP (n : Nat) (r : Nat → Nat → Prop) : Prop := ∀ p q, r p q → p ≤ q ∧ (p ≤ n → q ≤ n)
theorem inP.rt {n : Nat} {r : Nat → Nat → Prop} (h : inP n r) : inP n (RT r) := fun p q k => by
  induction k with
  | refl => exact ⟨Nat.le_refl _, id⟩
  | step h1 _ ih => have := h _ _ h1; exact ⟨by omega, fun k => ih.2 (this.2 k)⟩
theorem inP.it {n : Nat} {r : Nat → Nat → Prop} (h : inP n r) : ∀ k, inP n (IT r k)
  | 0, p, q, e => by obtain rfl : p = q := e
                     exact ⟨Nat.le_refl _, id⟩
  | k + 1, p, q, ⟨m, h1, h2⟩ => by have a := h _ _ h1; have b := h.it k _ _ h2; exact ⟨by omega, fun k => b.2 (a.2 k)⟩
mutual
theorem mt_in (s : List Nat) : ∀ t : T, inP s.length (mt s t)
  | .set a, p, q, h => by
    unfold mt at h
    obtain ⟨rfl, c, hc, _⟩ := h
    have := (List.getElem?_eq_some_iff.1 hc).1
    omega
  | .emp, p, q, h => by unfold mt at h; omega
  | .cat l, p, q, h => by unfold mt at h; exact mtC_in s l p q h
  | .alt l, p, q, h => by unfold mt at h; exact mtA_in s l p q h
  | .star t, p, q, h => by unfold mt at h; exact (mt_in s t).rt p q h
  | .plus t, p, q, h => by
    unfold mt at h
    obtain ⟨m, h1, h2⟩ := h
    have a := mt_in s t _ _ h1
    have b := (mt_in s t).rt _ _ h2
    exact ⟨by omega, fun k => b.2 (a.2 k)⟩
  | .opt t, p, q, h => by
    unfold mt at h
    rcases h with rfl | h
    · exact ⟨Nat.le_refl _, id⟩
    · exact mt_in s t _ _ h
  | .rep lo hi t, p, q, h => by
    unfold mt at h
    obtain ⟨k, _, _, h⟩ := h
    exact (mt_in s t).it k p q h
theorem mtC_in (s : List Nat) : ∀ l : List T, inP s.length (mtC s l)
  | [], p, q, h => by unfold mtC at h; omega
  | t :: l, p, q, h => by
    unfold mtC at h
    obtain ⟨m, h1, h2⟩ := h
    have a := mt_in s t _ _ h1
    have b := mtC_in s l _ _ h2
    exact ⟨by omega, fun k => b.2 (a.2 k)⟩
theorem mtA_in (s : List Nat) : ∀ l : List T, inP s.length (mtA s l)
  | [], p, q, h => by unfold mtA at h; cases h
  | t :: l, p, q, h => by
    unfold mtA at h
    rcases h with h | h
    · exact mt_in s t _ _ h
    · exact mtA_in s l _ _ h
end
theorem mtC_app (s : List Nat) : ∀ (a b : List T) (p q : Nat), mtC s (a ++ b) p q ↔ ∃ m, mtC s a p m ∧ mtC s b m q
  | [], b, p, q => by
    rw [List.nil_append]
    exact ⟨fun h => ⟨p, by unfold mtC; rfl, h⟩, fun ⟨m, e, h⟩ => by unfold mtC at e; subst e; exact h⟩
  | t :: a, b, p, q => by
    simp only [List.cons_append, mtC]
    constructor
    · rintro ⟨m, h1, h2⟩
      obtain ⟨x, h3, h4⟩ := (mtC_app s a b m q).1 h2
      exact ⟨x, ⟨m, h1, h3⟩, h4⟩
    · rintro ⟨x, ⟨m, h1, h3⟩, h4⟩
      exact ⟨m, h1, (mtC_app s a b m q).2 ⟨x, h3, h4⟩⟩
theorem mtC_one (s : List Nat) (t : T) (p q : Nat) : mtC s [t] p q ↔ mt s t p q := by
  rw [mtC]
  exact ⟨fun ⟨m, h, e⟩ => by unfold mtC at e; subst e; exact h, fun h => ⟨q, h, by unfold mtC; rfl⟩⟩
theorem mtA_app (s : List Nat) : ∀ (a b : List T) (p q : Nat), mtA s (a ++ b) p q ↔ mtA s a p q ∨ mtA s b p q
  | [], b, p, q => by rw [List.nil_append, mtA]; exact ⟨.inr, fun h => h.elim False.elim id⟩
  | t :: a, b, p, q => by
    simp only [List.cons_append, mtA, mtA_app s a b p q]
    exact ⟨fun h => h.elim (fun h => .inl (.inl h)) (fun h => h.elim (fun h => .inl (.inr h)) .inr), fun h => h.elim (fun h => h.elim .inl (fun h => .inr (.inl h))) (fun h => .inr (.inr h))⟩
theorem mtA_one (s : List Nat) (t : T) (p q : Nat) : mtA s [t] p q ↔ mt s t p q := by
  rw [mtA, mtA]
  exact ⟨fun h => h.elim id False.elim, .inl⟩

/-- A table tells a relation, at places below n. -/
def tells (n : Nat) (f : Nat → Nat → Bool) (r : Nat → Nat → Prop) : Prop := ∀ p q, p < n → q < n → (f p q = true ↔ r p q)
/-- One table behind another one, through the first so many places. -/
def thn (f g : Nat → Nat → Bool) : Nat → Nat → Nat → Bool
  | 0, _, _ => false
  | m + 1, p, r => thn f g m p r || (f p m && g m r)
theorem thn_iff {f g : Nat → Nat → Bool} : ∀ {m p r : Nat}, thn f g m p r = true ↔ ∃ q, q < m ∧ f p q = true ∧ g q r = true
  | 0, p, r => by unfold thn; exact ⟨fun h => (by cases h), fun ⟨q, h, _⟩ => absurd h (by omega)⟩
  | m + 1, p, r => by
    rw [thn, Bool.or_eq_true, Bool.and_eq_true, thn_iff]
    constructor
    · rintro (⟨q, h1, h2⟩ | h)
      · exact ⟨q, by omega, h2⟩
      · exact ⟨m, by omega, h⟩
    · rintro ⟨q, h1, h2⟩
      rcases (show q < m ∨ q = m by omega) with h | rfl
      · exact .inl ⟨q, h, h2⟩
      · exact .inr h2
theorem tells_then {n : Nat} {f g : Nat → Nat → Bool} {r1 r2 : Nat → Nat → Prop} (h1 : tells n f r1) (h2 : tells n g r2) (hin : ∀ p q, r1 p q → p < n → q < n) : tells n (thn f g n) (fun p q => ∃ m, r1 p m ∧ r2 m q) := fun p q hp hq => by
  rw [thn_iff]
  constructor
  · rintro ⟨m, hm, a, b⟩
    exact ⟨m, (h1 p m hp hm).1 a, (h2 m q hm hq).1 b⟩
  · rintro ⟨m, a, b⟩
    have hm := hin p m a hp
    exact ⟨m, hm, (h1 p m hp hm).2 a, (h2 m q hm hq).2 b⟩
/-- Again and again through one place more. -/
def war (f : Nat → Nat → Bool) : Nat → Nat → Nat → Bool
  | 0, p, r => f p r || (p == r)
  | m + 1, p, r => war f m p r || (war f m p m && war f m m r)
theorem war_row (f : Nat → Nat → Bool) (m r : Nat) : war f (m + 1) m r = war f m m r := by
  rw [war]
  cases war f m m r <;> simp
theorem war_up {f : Nat → Nat → Bool} {p r : Nat} : ∀ {m k : Nat}, m ≤ k → war f m p r = true → war f k p r = true
  | m, 0, h, e => by obtain rfl : m = 0 := by omega
                     exact e
  | m, k + 1, h, e => by
    rcases (show m = k + 1 ∨ m ≤ k by omega) with rfl | h
    · exact e
    · rw [war, war_up h e]; rfl
theorem war_trans {f : Nat → Nat → Bool} : ∀ {k p m r : Nat}, m < k → war f k p m = true → war f k m r = true → war f k p r = true
  | 0, p, m, r, h, _, _ => absurd h (by omega)
  | k + 1, p, m, r, h, a, b => by
    rw [war, Bool.or_eq_true, Bool.and_eq_true] at a b ⊢
    rcases (show m < k ∨ m = k by omega) with hm | rfl
    · rcases a with a | ⟨a1, a2⟩
      · rcases b with b | ⟨b1, b2⟩
        · exact .inl (war_trans hm a b)
        · exact .inr ⟨war_trans hm a b1, b2⟩
      · rcases b with b | ⟨b1, b2⟩
        · exact .inr ⟨a1, war_trans hm a2 b⟩
        · exact .inr ⟨a1, b2⟩
    · have a' : war f m p m = true := a.elim id (fun h => h.1)
      have b' : war f m m r = true := b.elim id (fun h => h.2)
      exact .inr ⟨a', b'⟩
theorem war_iff {n : Nat} {f : Nat → Nat → Bool} {r : Nat → Nat → Prop} (h : tells n f r) (hin : ∀ p q, r p q → p < n → q < n) : tells n (war f n) (RT r) := by
  have sound : ∀ k p q, k ≤ n → p < n → q < n → war f k p q = true → RT r p q := by
    intro k
    induction k with
    | zero =>
      intro p q _ hp hq e
      rw [war, Bool.or_eq_true] at e
      rcases e with e | e
      · exact .one ((h p q hp hq).1 e)
      · obtain rfl : p = q := by simpa using e
        exact .refl _
    | succ k ih =>
      intro p q hk hp hq e
      rw [war, Bool.or_eq_true, Bool.and_eq_true] at e
      rcases e with e | ⟨e1, e2⟩
      · exact ih p q (by omega) hp hq e
      · exact (ih p k (by omega) hp (by omega) e1).trans (ih k q (by omega) (by omega) hq e2)
  intro p q hp hq
  refine ⟨sound n p q (Nat.le_refl _) hp hq, fun k => ?_⟩
  induction k with
  | refl p => exact war_up (Nat.zero_le _) (by rw [war]; simp)
  | step h1 h2 ih =>
    have hm := hin _ _ h1 hp
    exact war_trans hm (war_up (Nat.zero_le _) (by rw [war, (h _ _ hp hm).2 h1]; rfl)) (ih hm hq)
end Go.Proofs.Ythjelilmlbbalaa.Am
namespace Go.Proofs.Ythjelilmlbbalaa.An
open Go.Proofs.Ythjelilmlbbalaa.Tm Go.Proofs.Ythjelilmlbbalaa.Rm Go.Proofs.Ythjelilmlbbalaa.Am

/-- An edge. -/
structure Eg where
  to : Int
  free : Bool
  s : List Nat
/-- An automaton. -/
structure Au where
  E : List (List Eg)
  first : Int
  R : List Int
/-- It is right. -/
structure okA (A : Au) : Prop where
  lo : 1 ≤ A.E.length
  hi : A.E.length ≤ 3000
  rl : A.R.length = A.E.length
  f0 : 0 ≤ A.first
  f1 : A.first < (A.E.length : Int)
  r : ∀ x ∈ A.R, -1 ≤ x ∧ x ≤ 31
  e : ∀ l ∈ A.E, ∀ e ∈ l, 0 ≤ e.to ∧ e.to < (A.E.length : Int) ∧ (e.free = true → e.s = zero)
/-- A free edge. -/
def fre (E : List (List Eg)) (p q : Nat) : Prop := ∃ l e, E[p]? = some l ∧ e ∈ l ∧ e.free = true ∧ e.to = (q : Int)
/-- An edge by a byte. -/
def byE (E : List (List Eg)) (c p q : Nat) : Prop := ∃ l e, E[p]? = some l ∧ e ∈ l ∧ e.free = false ∧ has e.s c = true ∧ e.to = (q : Int)
/-- Where free edges lead. -/
def clo (E : List (List Eg)) (S : Nat → Prop) (q : Nat) : Prop := ∃ p, S p ∧ p < E.length ∧ RT (fre E) p q
/-- Where a byte leads. -/
def stp (E : List (List Eg)) (c : Nat) (S : Nat → Prop) : Nat → Prop := clo E (fun q => ∃ p, S p ∧ byE E c p q)
/-- Where it is after some bytes. -/
def runs (E : List (List Eg)) (first : Nat) : List Nat → Nat → Prop
  | s => s.foldl (fun S c => stp E c S) (clo E (fun p => p = first))
/-- One step of an automaton that is at a state and a place of a text. -/
inductive mv (E : List (List Eg)) (s : List Nat) : Nat × Nat → Nat × Nat → Prop where
  | free {a b : Nat} (p : Nat) (h : fre E a b) : mv E s (a, p) (b, p)
  | byte {a b p c : Nat} (hc : s[p]? = some c) (h : byE E c a b) : mv E s (a, p) (b, p + 1)
/-- Some steps. -/
inductive mvs (E : List (List Eg)) (s : List Nat) : Nat × Nat → Nat × Nat → Prop where
  | refl (x : Nat × Nat) : mvs E s x x
  | step {x y z : Nat × Nat} (h : mv E s x y) (k : mvs E s y z) : mvs E s x z
section
variable {E : List (List Eg)} {s : List Nat}
theorem mvs.trans {x y z : Nat × Nat} (h : mvs E s x y) (k : mvs E s y z) : mvs E s x z := by
  induction h with
  | refl => exact k
  | step h _ ih => exact .step h (ih k)
theorem mvs.one {x y : Nat × Nat} (h : mv E s x y) : mvs E s x y := .step h (.refl _)
theorem mvs_free {a b : Nat} (p : Nat) (h : RT (fre E) a b) : mvs E s (a, p) (b, p) := by
  induction h with
  | refl => exact .refl _
  | step h _ ih => exact .step (.free p h) ih
theorem mv_up {x y : Nat × Nat} (h : mv E s x y) : x.2 ≤ y.2 ∧ y.2 ≤ x.2 + 1 := by cases h <;> simp
theorem mvs_up {x y : Nat × Nat} (h : mvs E s x y) : x.2 ≤ y.2 := by
  induction h with
  | refl => exact Nat.le_refl _
  | step h _ ih => have := mv_up h; omega
theorem mvs.snoc {x y z : Nat × Nat} (h : mvs E s x y) (k : mv E s y z) : mvs E s x z := h.trans (.one k)
/-- What is reached at a place, and free edges from there. -/
def atP (E : List (List Eg)) (s : List Nat) (first p q : Nat) : Prop := mvs E s (first, 0) (q, p)
theorem runs_snoc (first : Nat) (s : List Nat) (c : Nat) : runs E first (s ++ [c]) = stp E c (runs E first s) := by
  unfold runs
  rw [List.foldl_append]
  rfl
/-- A move of a text is one of a longer text. -/
theorem mv_more {x y : Nat × Nat} {r : List Nat} (h : mv E s x y) : mv E (s ++ r) x y := by
  cases h with
  | free p h => exact .free p h
  | byte hc h => exact .byte (by rw [List.getElem?_append_left (List.getElem?_eq_some_iff.1 hc).1]; exact hc) h
theorem mvs_more {x y : Nat × Nat} {r : List Nat} (h : mvs E s x y) : mvs E (s ++ r) x y := by
  induction h with
  | refl => exact .refl _
  | step h _ ih => exact .step (mv_more h) ih
theorem mv_less {x y : Nat × Nat} {r : List Nat} (h : mv E (s ++ r) x y) (hy : y.2 ≤ s.length) : mv E s x y := by
  cases h with
  | free p h => exact .free p h
  | byte hc h => exact .byte (by rw [List.getElem?_append_left (by simp at hy; omega)] at hc; exact hc) h
theorem mvs_less {x y : Nat × Nat} {r : List Nat} (h : mvs E (s ++ r) x y) (hy : y.2 ≤ s.length) : mvs E s x y := by
  induction h with
  | refl => exact .refl _
  | step h k ih => have := mvs_up k; exact .step (mv_less h (by omega)) (ih hy)
/-- A path that stays at a place. -/
theorem mvs_same {a q p : Nat} : mvs E s (a, p) (q, p) ↔ RT (fre E) a q := by
  refine ⟨fun h => ?_, mvs_free p⟩
  generalize hx : (a, p) = x at h
  generalize hz : (q, p) = z at h
  induction h generalizing a with
  | refl => subst hx; injection hz with h _; subst h; exact .refl _
  | step h k ih =>
    subst hx; subst hz
    cases h with
    | free _ h => exact .step h (ih rfl rfl)
    | byte _ h => have := mvs_up k; simp only at this; omega
/-- A path to the next place: a path to this one, a byte, free edges. -/
theorem mvs_byte {x : Nat × Nat} {q p c : Nat} (hc : s[p]? = some c) (hx : x.2 ≤ p) : mvs E s x (q, p + 1) ↔ ∃ a b, mvs E s x (a, p) ∧ byE E c a b ∧ RT (fre E) b q := by
  constructor
  · intro h
    generalize hz : (q, p + 1) = z at h
    induction h with
    | refl x => subst hz; simp at hx; omega
    | step h k ih =>
      subst hz
      cases h with
      | free p' h =>
        obtain ⟨a, b, h1, h2, h3⟩ := ih (by simpa using hx) rfl
        exact ⟨a, b, .step (.free p' h) h1, h2, h3⟩
      | @byte a b p' c' hc' h =>
        rcases Nat.lt_or_ge p' p with hl | hl
        · obtain ⟨a', b', h1, h2, h3⟩ := ih (by show p' + 1 ≤ p; omega) rfl
          exact ⟨a', b', .step (.byte hc' h) h1, h2, h3⟩
        · obtain rfl : p' = p := by have : p' ≤ p := hx; omega
          rw [hc'] at hc
          obtain rfl : c' = c := Option.some.inj hc
          exact ⟨a, b, .refl _, h, mvs_same.1 k⟩
  · rintro ⟨a, b, h1, h2, h3⟩
    exact (h1.snoc (.byte hc h2)).trans (mvs_free _ h3)
theorem snoc_ind {P : List Nat → Prop} (h0 : P []) (h1 : ∀ s c, P s → P (s ++ [c])) (s : List Nat) : P s := by
  have key : ∀ l : List Nat, P l.reverse := by
    intro l
    induction l with
    | nil => exact h0
    | cons x l ih => rw [List.reverse_cons]; exact h1 _ _ ih
  rw [← List.reverse_reverse s]
  exact key _
/-- Where an automaton is after a text is where it gets. -/
theorem runs_iff {first : Nat} (hf : first < E.length) (hE : ∀ c p q, byE E c p q → q < E.length) : ∀ (s : List Nat) (q : Nat), runs E first s q ↔ mvs E s (first, 0) (q, s.length) := by
  refine snoc_ind ?_ ?_
  · skip
    intro q
    show clo E _ q ↔ _
    rw [List.length_nil, mvs_same]
    exact ⟨fun ⟨p, e, _, h⟩ => by subst e; exact h, fun h => ⟨first, rfl, hf, h⟩⟩
  · intro s c ih q
    rw [runs_snoc, List.length_append, List.length_singleton, mvs_byte (c := c) (by simp) (Nat.zero_le _)]
    constructor
    · rintro ⟨b, ⟨a, h1, h2⟩, _, h3⟩
      exact ⟨a, b, mvs_more ((ih a).1 h1), h2, h3⟩
    · rintro ⟨a, b, h1, h2, h3⟩
      exact ⟨b, ⟨a, (ih a).2 (mvs_less h1 (Nat.le_refl _)), h2⟩, hE _ _ _ h2, h3⟩
end
/-- Strictly ascending. -/
def asc : List Int → Prop
  | [] => True
  | x :: l => (∀ y ∈ l, x < y) ∧ asc l
theorem asc_ext : ∀ {a b : List Int}, asc a → asc b → (∀ x, x ∈ a ↔ x ∈ b) → a = b
  | [], [], _, _, _ => rfl
  | [], y :: b, _, _, h => absurd ((h y).2 (by simp)) (by simp)
  | x :: a, [], _, _, h => absurd ((h x).1 (by simp)) (by simp)
  | x :: a, y :: b, ha, hb, h => by
    unfold asc at ha hb
    have hxy : x = y := by
      rcases List.mem_cons.1 ((h x).1 (by simp)) with e | e
      · exact e
      · rcases List.mem_cons.1 ((h y).2 (by simp)) with e' | e'
        · exact e'.symm
        · have h1 := hb.1 x e; have h2 := ha.1 y e'; omega
    subst hxy
    rw [asc_ext ha.2 hb.2 (fun z => ?_)]
    constructor
    · intro hz
      have h1 := ha.1 z hz
      rcases List.mem_cons.1 ((h z).1 (List.mem_cons_of_mem _ hz)) with e | e
      · omega
      · exact e
    · intro hz
      have h1 := hb.1 z hz
      rcases List.mem_cons.1 ((h z).2 (List.mem_cons_of_mem _ hz)) with e | e
      · omega
      · exact e
/-- A number put in its place, once. -/
def putQ : List Int → Int → List Int
  | [], n => [n]
  | x :: l, n => if x < n then x :: putQ l n else if x = n then x :: l else n :: x :: l
theorem putQ_mem : ∀ {l : List Int} {n x : Int}, x ∈ putQ l n ↔ x = n ∨ x ∈ l
  | [], n, x => by unfold putQ; simp
  | y :: l, n, x => by
    unfold putQ
    split
    · rw [List.mem_cons, putQ_mem, List.mem_cons]; exact ⟨fun h => h.elim (fun h => .inr (.inl h)) (fun h => h.elim .inl (fun h => .inr (.inr h))), fun h => h.elim (fun h => .inr (.inl h)) (fun h => h.elim .inl (fun h => .inr (.inr h)))⟩
    · split
      · next h => subst h; rw [List.mem_cons]; exact ⟨.inr, fun h => h.elim .inl id⟩
      · rw [List.mem_cons]
theorem putQ_asc : ∀ {l : List Int} {n : Int}, asc l → asc (putQ l n)
  | [], n, _ => by unfold putQ asc; exact ⟨by simp, by unfold asc; trivial⟩
  | y :: l, n, h => by
    unfold asc at h
    unfold putQ
    split
    · next h1 =>
      unfold asc
      refine ⟨fun z hz => ?_, putQ_asc h.2⟩
      rcases putQ_mem.1 hz with rfl | hz
      · exact h1
      · exact h.1 z hz
    · split
      · unfold asc; exact h
      · unfold asc
        refine ⟨fun z hz => ?_, by unfold asc; exact h⟩
        rcases List.mem_cons.1 hz with rfl | hz
        · omega
        · have := h.1 z hz; omega
theorem putQ_len {l : List Int} {n : Int} : (putQ l n).length ≤ l.length + 1 := by
  induction l with
  | nil => unfold putQ; simp
  | cons y l ih =>
    unfold putQ
    split
    · simp only [List.length_cons]; omega
    · split
      · simp
      · simp
theorem putQ_old {l : List Int} {n : Int} (ha : asc l) (h : n ∈ l) : putQ l n = l :=
  asc_ext (putQ_asc ha) ha (fun x => by rw [putQ_mem]; exact ⟨fun k => k.elim (fun e => by rw [e]; exact h) id, .inr⟩)
theorem asc_len : ∀ {l : List Int} {lo hi : Int}, asc l → (∀ x ∈ l, lo ≤ x ∧ x < hi) → lo ≤ hi → (l.length : Int) ≤ hi - lo
  | [], lo, hi, _, _, h => by simp; omega
  | x :: l, lo, hi, ha, hb, h => by
    unfold asc at ha
    have hx := hb x (by simp)
    have := asc_len (lo := x + 1) (hi := hi) ha.2 (fun y hy => ⟨by have := ha.1 y hy; omega, (hb y (List.mem_cons_of_mem _ hy)).2⟩) (by omega)
    rw [List.length_cons]
    omega
end Go.Proofs.Ythjelilmlbbalaa.An
namespace Go.Proofs.Ythjelilmlbbalaa.Aa
open Go.RowKit Go.Proofs.Ythjelilmlbbalaa.Bw Go.Proofs.Ythjelilmlbbalaa.Na Go.Proofs.Ythjelilmlbbalaa.Tm Go.Proofs.Ythjelilmlbbalaa.Ta Go.Proofs.Ythjelilmlbbalaa.Tb Go.Proofs.Ythjelilmlbbalaa.Tf Go.Proofs.Ythjelilmlbbalaa.Rm Go.Proofs.Ythjelilmlbbalaa.Ra Go.Proofs.Ythjelilmlbbalaa.An

/-- An edge's cells lie at a place. -/
structure ed1 (w : World) (b j : Nat) (x : Eg) : Prop where
  s : isSet x.s
  it : in64 x.to
  c0 : w.cell? ⟨b, j, none⟩ = some (.int .i64 x.to)
  c1 : w.cell? ⟨b, j + 1, none⟩ = some (.bool x.free)
  cs : ∀ (i y : Nat), x.s[i]? = some y → w.cell? ⟨b, j + 2 + i, none⟩ = some (.int .u64 (y : Int))
theorem ed1.below {w w' : World} {b j : Nat} {x : Eg} (h : ed1 w b j x) (hb : b < w.heap.size) (k : Below w.heap.size w w') : ed1 w' b j x := by
  have hc : ∀ i, w'.cell? ⟨b, i, none⟩ = w.cell? ⟨b, i, none⟩ := fun i => k.cell (p := ⟨b, i, none⟩) hb
  exact ⟨h.s, h.it, (hc _).trans h.c0, (hc _).trans h.c1, fun i y hy => (hc _).trans (h.cs i y hy)⟩
theorem ed1.four {w : World} {b j : Nat} {x : Eg} (h : ed1 w b j x) : ∃ x0 x1 x2 x3 : Nat, x.s = [x0, x1, x2, x3] ∧ w.cell? ⟨b, j + 2, none⟩ = some (.int .u64 (x0 : Int)) ∧ w.cell? ⟨b, j + 3, none⟩ = some (.int .u64 (x1 : Int)) ∧ w.cell? ⟨b, j + 4, none⟩ = some (.int .u64 (x2 : Int)) ∧ w.cell? ⟨b, j + 5, none⟩ = some (.int .u64 (x3 : Int)) := by
  obtain ⟨x0, x1, x2, x3, e⟩ := four_of h.s
  exact ⟨x0, x1, x2, x3, e, h.cs 0 x0 (by rw [e]; rfl), h.cs 1 x1 (by rw [e]; rfl), h.cs 2 x2 (by rw [e]; rfl), h.cs 3 x3 (by rw [e]; rfl)⟩
/-- A row of edges that is read. -/
def eds (w : World) (A : Option Addr) (l : List Eg) : Prop := ∀ i x, l[i]? = some x → ∃ b off : Nat, A = some ⟨b, off, none⟩ ∧ b < w.heap.size ∧ ed1 w b (off + i * 6) x
theorem eds.below {w w' : World} {A : Option Addr} {l : List Eg} (h : eds w A l) (k : Below w.heap.size w w') : eds w' A l := fun i x hi => by
  obtain ⟨b, off, rfl, hb, hp⟩ := h i x hi
  exact ⟨b, off, rfl, Nat.lt_of_lt_of_le hb k.size, hp.below hb k⟩
/-- Rows of edges. -/
def edr (w : World) (A : Option Addr) (E : List (List Eg)) : Prop := ∀ i l, E[i]? = some l → ∃ b off : Nat, A = some ⟨b, off, none⟩ ∧ b < w.heap.size ∧ ∃ (A' : Option Addr) (c' : Nat), w.cell? ⟨b, off + i, none⟩ = some (.slice A' l.length c') ∧ l.length ≤ c' ∧ eds w A' l
theorem edr.below {w w' : World} {A : Option Addr} {E : List (List Eg)} (h : edr w A E) (k : Below w.heap.size w w') : edr w' A E := fun i l hi => by
  obtain ⟨b, off, rfl, hb, A', c', hc, hl, he⟩ := h i l hi
  exact ⟨b, off, rfl, Nat.lt_of_lt_of_le hb k.size, A', c', (k.cell (p := ⟨b, off + i, none⟩) hb).trans hc, hl, he.below k⟩
/-- A list's number at a place. -/
def at0 (l : List Int) (i : Nat) : Int := l.getD i 0
theorem at0_get {l : List Int} {i : Nat} (h : i < l.length) : l[i]? = some (at0 l i) := by
  unfold at0
  rw [List.getD_eq_getElem?_getD, List.getElem?_eq_getElem h]; rfl
/-- An automaton as a value. -/
structure nfa (w : World) (A1 : Option Addr) (A2 : Option Addr) (A : Au) : Prop where
  e : edr w A1 A.E
  r : row w A2 A.R.length (at0 A.R)
  i : in64 A.first
theorem nfa.below {w w' : World} {A1 A2 : Option Addr} {A : Au} (h : nfa w A1 A2 A) (k : Below w.heap.size w w') : nfa w' A1 A2 A := ⟨h.e.below k, h.r.below k, h.i⟩
end Go.Proofs.Ythjelilmlbbalaa.Aa
namespace Go.Proofs.Ythjelilmlbbalaa.Ap
open Go.Proofs.Ythjelilmlbbalaa.Tm Go.Proofs.Ythjelilmlbbalaa.Rm Go.Proofs.Ythjelilmlbbalaa.Rv Go.Proofs.Ythjelilmlbbalaa.Am

/-- A table. -/
abbrev Gd := Nat → Nat → Bool
def sameG : Gd := fun p q => p == q
def noG : Gd := fun _ _ => false
def orG (f g : Gd) : Gd := fun p q => f p q || g p q
/-- So many times. -/
def lowG (n : Nat) (f : Gd) : Nat → Gd
  | 0 => sameG
  | k + 1 => thn (lowG n f k) f n
/-- So many times more, or not. -/
def moreG (n : Nat) (g f : Gd) : Nat → Gd
  | 0 => g
  | k + 1 => thn (moreG n g f k) (orG f sameG) n
def timesG (n : Nat) (f : Gd) (lo : Nat) (hi : Int) : Gd := if hi < 0 then thn (lowG n f lo) (war f n) n else moreG n (lowG n f lo) f (hi.toNat - lo)
def setG (s : List Nat) (a : List Nat) : Gd := fun p q => decide (q = p + 1) && (decide (p < s.length) && has a (s.getD p 0))
mutual
def pairs (s : List Nat) : T → Gd
  | .set a => setG s a
  | .emp => sameG
  | .cat l => pairsC s sameG l
  | .alt l => pairsA s noG l
  | .star t => timesG (s.length + 1) (fun p q => pairs s t p q) 0 (-1)
  | .plus t => timesG (s.length + 1) (fun p q => pairs s t p q) 1 (-1)
  | .opt t => timesG (s.length + 1) (fun p q => pairs s t p q) 0 1
  | .rep lo hi t => timesG (s.length + 1) (fun p q => pairs s t p q) lo hi
def pairsC (s : List Nat) (g : Gd) : List T → Gd
  | [] => g
  | t :: l => pairsC s (thn g (fun p q => pairs s t p q) (s.length + 1)) l
def pairsA (s : List Nat) (g : Gd) : List T → Gd
  | [] => g
  | t :: l => pairsA s (orG g (fun p q => pairs s t p q)) l
end
section
variable {n : Nat} {f g : Gd} {r r1 r2 : Nat → Nat → Prop}
theorem tells_same : tells n sameG (fun p q => p = q) := fun p q _ _ => by unfold sameG; simp
theorem tells_or (h1 : tells n f r1) (h2 : tells n g r2) : tells n (orG f g) (fun p q => r1 p q ∨ r2 p q) := fun p q hp hq => by
  unfold orG; rw [Bool.or_eq_true, h1 p q hp hq, h2 p q hp hq]
theorem _root_.Go.Proofs.Ythjelilmlbbalaa.Am.tells.congr (h : tells n f r1) (e : ∀ p q, p < n → q < n → (r1 p q ↔ r2 p q)) : tells n f r2 := fun p q hp hq => (h p q hp hq).trans (e p q hp hq)
/-- It stays below n. -/
def low (n : Nat) (r : Nat → Nat → Prop) : Prop := ∀ p q, r p q → p < n → q < n
theorem low_it (h : low n r) : ∀ k, low n (IT r k)
  | 0, p, q, e, hp => by obtain rfl : p = q := e
                         exact hp
  | k + 1, p, q, ⟨m, h1, h2⟩, hp => low_it h k m q h2 (h p m h1 hp)
theorem tells_low (h : tells n f r) (hl : low n r) : ∀ k, tells n (lowG n f k) (IT r k)
  | 0 => tells_same
  | k + 1 => (tells_then (tells_low h hl k) h (low_it hl k)).congr (fun p q _ _ => by rw [IT.snoc])
theorem low_opt (h : low n r) : low n (Am.opt r) := fun p q k hp => k.elim (fun e => by rw [← e]; exact hp) (fun k => h p q k hp)
theorem tells_more (h : tells n f r) (hl : low n r) (h1 : tells n g r1) (hl1 : low n r1) : ∀ k, tells n (moreG n g f k) (fun p q => ∃ m, r1 p m ∧ IT (Am.opt r) k m q) ∧ low n (fun p q => ∃ m, r1 p m ∧ IT (Am.opt r) k m q)
  | 0 => ⟨h1.congr (fun p q _ _ => ⟨fun h => ⟨q, h, rfl⟩, fun ⟨m, h, e⟩ => by obtain rfl : m = q := e; exact h⟩), fun p q ⟨m, h, e⟩ hp => by obtain rfl : m = q := e; exact hl1 p m h hp⟩
  | k + 1 => by
    obtain ⟨a, b⟩ := tells_more h hl h1 hl1 k
    have ho : tells n (orG f sameG) (Am.opt r) := (tells_or h tells_same).congr (fun p q _ _ => ⟨fun k => k.elim .inr .inl, fun k => k.elim .inr .inl⟩)
    refine ⟨(tells_then a ho b).congr (fun p q _ _ => ?_), fun p q ⟨m, x, y⟩ hp => low_it (low_opt hl) _ _ _ y (hl1 _ _ x hp)⟩
    constructor
    · rintro ⟨x, ⟨m, h1, h2⟩, h3⟩
      exact ⟨m, h1, IT.snoc.2 ⟨x, h2, h3⟩⟩
    · rintro ⟨m, h1, h2⟩
      obtain ⟨x, h3, h4⟩ := IT.snoc.1 h2
      exact ⟨x, ⟨m, h1, h3⟩, h4⟩
theorem tells_times (h : tells n f r) (hl : low n r) {lo : Nat} {hi : Int} (hh : hi < 0 ∨ (lo : Int) ≤ hi) : tells n (timesG n f lo hi) (fun p q => ∃ k, lo ≤ k ∧ (hi < 0 ∨ (k : Int) ≤ hi) ∧ IT r k p q) := by
  unfold timesG
  split
  · next h0 =>
    refine (tells_then (tells_low h hl lo) (war_iff h hl) (low_it hl lo)).congr (fun p q _ _ => ?_)
    rw [IT.from']
    exact ⟨fun ⟨k, a, b⟩ => ⟨k, a, .inl h0, b⟩, fun ⟨k, a, _, b⟩ => ⟨k, a, b⟩⟩
  · next h0 =>
    refine (tells_more h hl (tells_low h hl lo) (low_it hl lo) (hi.toNat - lo)).1.congr (fun p q _ _ => ?_)
    rw [IT.range (by omega)]
    exact ⟨fun ⟨k, a, b, c⟩ => ⟨k, a, .inr (by omega), c⟩, fun ⟨k, a, b, c⟩ => ⟨k, a, by omega, c⟩⟩
end
theorem low_in {s : List Nat} {r : Nat → Nat → Prop} (h : inP s.length r) : low (s.length + 1) r := fun p q k hp => by have := (h p q k).2 (by omega); omega
mutual
/-- The tables tell what is matched. -/
theorem tells_pairs (s : List Nat) : ∀ t : T, okT t → tells (s.length + 1) (pairs s t) (Am.mt s t)
  | .set a, _ => fun p q hp hq => by
    unfold pairs Am.mt setG
    rw [Bool.and_eq_true, Bool.and_eq_true, decide_eq_true_iff, decide_eq_true_iff]
    constructor
    · rintro ⟨h1, h2, h3⟩
      exact ⟨h1, s.getD p 0, by rw [List.getD_eq_getElem?_getD, List.getElem?_eq_getElem h2]; rfl, h3⟩
    · rintro ⟨h1, c, hc, h3⟩
      exact ⟨h1, (List.getElem?_eq_some_iff.1 hc).1, by rw [List.getD_eq_getElem?_getD, hc]; exact h3⟩
  | .emp, _ => by
    unfold pairs
    exact tells_same.congr (fun p q _ _ => by unfold Am.mt; exact Iff.rfl)
  | .cat l, h => by
    unfold pairs
    unfold okT at h
    refine (tells_pairsC s l h.2 sameG _ tells_same (fun p q e hp => by rw [← e]; exact hp)).congr (fun p q _ _ => ?_)
    unfold Am.mt
    exact ⟨fun ⟨m, e, k⟩ => by rw [e]; exact k, fun k => ⟨p, rfl, k⟩⟩
  | .alt l, h => by
    unfold pairs
    unfold okT at h
    refine (tells_pairsA s l h.2 noG (fun _ _ => False) (fun p q _ _ => by unfold noG; simp)).congr (fun p q _ _ => ?_)
    unfold Am.mt
    exact ⟨fun k => k.elim False.elim id, .inr⟩
  | .star t, h => by
    unfold pairs
    unfold okT at h
    refine (tells_times (tells_pairs s t h) (low_in (Am.mt_in s t)) (.inl (by omega))).congr (fun p q _ _ => ?_)
    unfold Am.mt
    rw [RT.iter]
    exact ⟨fun ⟨k, _, _, h⟩ => ⟨k, h⟩, fun ⟨k, h⟩ => ⟨k, by omega, .inl (by omega), h⟩⟩
  | .plus t, h => by
    unfold pairs
    unfold okT at h
    refine (tells_times (tells_pairs s t h) (low_in (Am.mt_in s t)) (.inl (by omega))).congr (fun p q _ _ => ?_)
    unfold Am.mt
    constructor
    · rintro ⟨k, h1, _, h2⟩
      obtain ⟨j, rfl⟩ : ∃ j, k = j + 1 := ⟨k - 1, by omega⟩
      obtain ⟨m, h3, h4⟩ := h2
      exact ⟨m, h3, RT.iter.2 ⟨j, h4⟩⟩
    · rintro ⟨m, h3, h4⟩
      obtain ⟨j, h5⟩ := RT.iter.1 h4
      exact ⟨j + 1, by omega, .inl (by omega), m, h3, h5⟩
  | .opt t, h => by
    unfold pairs
    unfold okT at h
    refine (tells_times (tells_pairs s t h) (low_in (Am.mt_in s t)) (.inr (by omega))).congr (fun p q _ _ => ?_)
    unfold Am.mt
    constructor
    · rintro ⟨k, _, h1, h2⟩
      rcases (show k = 0 ∨ k = 1 by omega) with rfl | rfl
      · exact .inl h2
      · obtain ⟨m, h3, e⟩ := h2
        obtain rfl : m = q := e
        exact .inr h3
    · rintro (h | h)
      · exact ⟨0, by omega, .inr (by omega), h⟩
      · exact ⟨1, by omega, .inr (by omega), q, h, rfl⟩
  | .rep lo hi t, h => by
    unfold pairs
    unfold okT at h
    refine (tells_times (tells_pairs s t h.2.2) (low_in (Am.mt_in s t)) (by omega)).congr (fun p q _ _ => ?_)
    unfold Am.mt
    exact Iff.rfl
theorem tells_pairsC (s : List Nat) : ∀ l : List T, okTs l → ∀ (g : Gd) (r : Nat → Nat → Prop), tells (s.length + 1) g r → low (s.length + 1) r → tells (s.length + 1) (pairsC s g l) (fun p q => ∃ m, r p m ∧ mtC s l m q)
  | [], _, g, r, hg, _ => by
    unfold pairsC
    refine hg.congr (fun p q _ _ => ?_)
    simp only [mtC]
    exact ⟨fun k => ⟨q, k, rfl⟩, fun ⟨m, k, e⟩ => by rw [← e]; exact k⟩
  | t :: l, h, g, r, hg, hl => by
    unfold pairsC
    unfold okTs at h
    refine (tells_pairsC s l h.2 _ _ (tells_then hg (tells_pairs s t h.1) hl) (fun p q ⟨m, a, b⟩ hp => low_in (Am.mt_in s t) m q b (hl p m a hp))).congr (fun p q _ _ => ?_)
    simp only [mtC]
    constructor
    · rintro ⟨x, ⟨m, a, b⟩, c⟩
      exact ⟨m, a, x, b, c⟩
    · rintro ⟨m, a, x, b, c⟩
      exact ⟨x, ⟨m, a, b⟩, c⟩
theorem tells_pairsA (s : List Nat) : ∀ l : List T, okTs l → ∀ (g : Gd) (r : Nat → Nat → Prop), tells (s.length + 1) g r → tells (s.length + 1) (pairsA s g l) (fun p q => r p q ∨ mtA s l p q)
  | [], _, g, r, hg => by
    unfold pairsA
    refine hg.congr (fun p q _ _ => ?_)
    simp only [mtA]
    exact ⟨.inl, fun k => k.elim id False.elim⟩
  | t :: l, h, g, r, hg => by
    unfold pairsA
    unfold okTs at h
    refine (tells_pairsA s l h.2 _ _ (tells_or hg (tells_pairs s t h.1))).congr (fun p q _ _ => ?_)
    simp only [mtA]
    exact ⟨fun k => k.elim (fun k => k.elim .inl (fun k => .inr (.inl k))) (fun k => .inr (.inr k)), fun k => k.elim (fun k => .inl (.inl k)) (fun k => k.elim (fun k => .inl (.inr k)) .inr)⟩
end
mutual
/-- A tree's size; at most a million at each node. -/
def szQ : T → Nat
  | .set _ => 2
  | .emp => 2
  | .cat l => min (szS l) 1000000
  | .alt l => min (2 + szS l) 1000000
  | .star t => min (2 + szQ t) 1000000
  | .plus t => min (2 + szQ t) 1000000
  | .opt t => min (2 + szQ t) 1000000
  | .rep lo hi t => min (2 + (if hi < 0 then max lo 1 else hi.toNat) * szQ t) 1000000
def szS : List T → Nat
  | [] => 0
  | t :: l => szQ t + szS l
end
mutual
/-- A tree's weight; at most a hundred thousand at each node. -/
def wtQ : T → Nat
  | .set _ => 1
  | .emp => 1
  | .cat l => min (1 + wtS l) 100000
  | .alt l => min (1 + wtS l) 100000
  | .star t => min (1 + wtQ t) 100000
  | .plus t => min (1 + wtQ t) 100000
  | .opt t => min (1 + wtQ t) 100000
  | .rep lo hi t => min ((1 + wtQ t) * (1 + (max (lo : Int) hi).toNat)) 100000
def wtS : List T → Nat
  | [] => 0
  | t :: l => wtQ t + wtS l
end
theorem szQ_le (t : T) : szQ t ≤ 1000000 := by cases t <;> (unfold szQ; omega)
theorem wtQ_le (t : T) : wtQ t ≤ 100000 := by cases t <;> (unfold wtQ; omega)
end Go.Proofs.Ythjelilmlbbalaa.Ap
namespace Go.Proofs.Ythjelilmlbbalaa.Af
open Go.Proofs.Ythjelilmlbbalaa.Tm Go.Proofs.Ythjelilmlbbalaa.Rm Go.Proofs.Ythjelilmlbbalaa.Am Go.Proofs.Ythjelilmlbbalaa.An

/-- Edges: from, to, and the set of bytes; none: free. -/
def Fs := Nat → Nat → Option (List Nat) → Prop
/-- One edge. -/
def edg (a b : Nat) (l : Option (List Nat)) : Fs := fun x y k => x = a ∧ y = b ∧ k = l
def uni (F G : Fs) : Fs := fun x y k => F x y k ∨ G x y k
inductive fm (F : Fs) (s : List Nat) : Nat × Nat → Nat × Nat → Prop where
  | free {a b : Nat} (p : Nat) (h : F a b none) : fm F s (a, p) (b, p)
  | byte {a b p c : Nat} {l : List Nat} (hc : s[p]? = some c) (hl : has l c = true) (h : F a b (some l)) : fm F s (a, p) (b, p + 1)
inductive fms (F : Fs) (s : List Nat) : Nat × Nat → Nat × Nat → Prop where
  | refl (x : Nat × Nat) : fms F s x x
  | step {x y z : Nat × Nat} (h : fm F s x y) (k : fms F s y z) : fms F s x z
section
variable {F G : Fs} {s : List Nat}
theorem fms.trans {x y z : Nat × Nat} (h : fms F s x y) (k : fms F s y z) : fms F s x z := by
  induction h with
  | refl => exact k
  | step h _ ih => exact .step h (ih k)
theorem fms.snoc {x y z : Nat × Nat} (h : fms F s x y) (k : fm F s y z) : fms F s x z := h.trans (.step k (.refl _))
theorem fm.mono (hF : ∀ a b l, F a b l → G a b l) {x y : Nat × Nat} (h : fm F s x y) : fm G s x y := by
  cases h with
  | free p h => exact .free p (hF _ _ _ h)
  | byte hc hl h => exact .byte hc hl (hF _ _ _ h)
theorem fms.mono (hF : ∀ a b l, F a b l → G a b l) {x y : Nat × Nat} (h : fms F s x y) : fms G s x y := by
  induction h with
  | refl => exact .refl _
  | step h _ ih => exact .step (h.mono hF) ih
theorem fms.inv {I : Nat × Nat → Prop} (hI : ∀ x y, I x → fm F s x y → I y) {x y : Nat × Nat} (h : fms F s x y) (hx : I x) : I y := by
  induction h with
  | refl => exact hx
  | step h _ ih => exact ih (hI _ _ hx h)
theorem fms.jump {a b p : Nat} (h : F a b none) : fms F s (a, p) (b, p) := .step (.free p h) (.refl _)
/-- A move of both is one of either. -/
theorem fm_uni {x y : Nat × Nat} (h : fm (uni F G) s x y) : fm F s x y ∨ fm G s x y := by
  cases h with
  | free p h => exact h.elim (fun h => .inl (.free p h)) (fun h => .inr (.free p h))
  | byte hc hl h => exact h.elim (fun h => .inl (.byte hc hl h)) (fun h => .inr (.byte hc hl h))
theorem fm_edg {a b : Nat} {x y : Nat × Nat} (h : fm (edg a b none) s x y) : x.1 = a ∧ y = (b, x.2) := by
  cases h with
  | free p h => obtain ⟨rfl, rfl, _⟩ := h; exact ⟨rfl, rfl⟩
  | byte hc hl h => obtain ⟨_, _, e⟩ := h; cases e
theorem uni_l (a b : Nat) (l : Option (List Nat)) : F a b l → uni F G a b l := .inl
theorem uni_r (a b : Nat) (l : Option (List Nat)) : G a b l → uni F G a b l := .inr
end
/-- A part: its edges lie among the states from lo on, below hi; so do its first and its last state; from the first to the last one it matches so. -/
structure prt (F : Fs) (lo hi i o : Nat) (r : List Nat → Nat → Nat → Prop) : Prop where
  li : lo ≤ i
  ih : i < hi
  lo' : lo ≤ o
  oh : o < hi
  e : ∀ a b l, F a b l → (lo ≤ a ∧ a < hi) ∧ lo ≤ b ∧ b < hi
  m : ∀ s p q, fms F s (i, p) (o, q) ↔ r s p q
theorem prt.fm {F : Fs} {lo hi i o : Nat} {r : List Nat → Nat → Nat → Prop} (h : prt F lo hi i o r) {s : List Nat} {x y : Nat × Nat} (k : fm F s x y) : (lo ≤ x.1 ∧ x.1 < hi) ∧ lo ≤ y.1 ∧ y.1 < hi := by
  cases k with
  | free p k => exact h.e _ _ _ k
  | byte hc hl k => exact h.e _ _ _ k
theorem prt.congr {F : Fs} {lo hi i o : Nat} {r r' : List Nat → Nat → Nat → Prop} (h : prt F lo hi i o r) (hr : ∀ s p q, r s p q ↔ r' s p q) : prt F lo hi i o r' := { h with m := fun s p q => (h.m s p q).trans (hr s p q) }
/-- The same edges. -/
theorem prt.same {F G : Fs} {lo hi i o : Nat} {r : List Nat → Nat → Nat → Prop} (h : prt F lo hi i o r) (hg : ∀ a b l, F a b l ↔ G a b l) : prt G lo hi i o r := by
  obtain rfl : F = G := by funext a b l; exact propext (hg a b l)
  exact h
theorem prt.wide {F : Fs} {lo hi i o lo2 hi2 : Nat} {r : List Nat → Nat → Nat → Prop} (h : prt F lo hi i o r) (h1 : lo2 ≤ lo) (h2 : hi ≤ hi2) : prt F lo2 hi2 i o r :=
  { li := Nat.le_trans h1 h.li, ih := Nat.lt_of_lt_of_le h.ih h2, lo' := Nat.le_trans h1 h.lo', oh := Nat.lt_of_lt_of_le h.oh h2, m := h.m,
    e := fun a b l k => by have := h.e a b l k; omega }
/-- Two states and one edge. -/
theorem part_set (i o : Nat) (hne : i ≠ o) {lo hi : Nat} (h : lo ≤ i ∧ i < hi ∧ lo ≤ o ∧ o < hi) (a : List Nat) : prt (edg i o (some a)) lo hi i o (fun s p q => q = p + 1 ∧ ∃ c, s[p]? = some c ∧ has a c = true) where
  li := h.1
  ih := h.2.1
  lo' := h.2.2.1
  oh := h.2.2.2
  e := fun x y l k => by obtain ⟨rfl, rfl, _⟩ := k; omega
  m := fun s p q => by
    constructor
    · intro k
      have := k.inv (I := fun x => x = (i, p) ∨ x.1 = o ∧ x.2 = p + 1 ∧ ∃ c, s[p]? = some c ∧ has a c = true) (fun x y hx m => by
        cases m with
        | free p' m => obtain ⟨_, _, e⟩ := m; cases e
        | byte hc hl m =>
          obtain ⟨rfl, rfl, e⟩ := m
          obtain rfl := Option.some.inj e
          rcases hx with hx | hx
          · injection hx with _ e2
            subst e2
            exact .inr ⟨rfl, rfl, _, hc, hl⟩
          · exact absurd hx.1 hne) (.inl rfl)
      rcases this with e | ⟨_, e, c⟩
      · injection e with e _; exact absurd e.symm hne
      · exact ⟨e, c⟩
    · rintro ⟨rfl, c, hc, hl⟩
      exact .step (.byte hc hl ⟨rfl, rfl, rfl⟩) (.refl _)
theorem part_emp (i o : Nat) (hne : i ≠ o) {lo hi : Nat} (h : lo ≤ i ∧ i < hi ∧ lo ≤ o ∧ o < hi) : prt (edg i o none) lo hi i o (fun _ p q => p = q) where
  li := h.1
  ih := h.2.1
  lo' := h.2.2.1
  oh := h.2.2.2
  e := fun x y l k => by obtain ⟨rfl, rfl, _⟩ := k; omega
  m := fun s p q => by
    constructor
    · intro k
      have := k.inv (I := fun x => x.2 = p) (fun x y hx m => by obtain ⟨_, rfl⟩ := fm_edg m; exact hx) rfl
      exact this.symm
    · rintro rfl
      exact .jump ⟨rfl, rfl, rfl⟩
/-- One part behind another one. -/
theorem part_cat {F G : Fs} {a b c d i o i2 o2 : Nat} {r r2 : List Nat → Nat → Nat → Prop} (h : prt F a b i o r) (g : prt G c d i2 o2 r2) (hd : b ≤ c ∨ d ≤ a) {lo hi : Nat} (hlo : lo ≤ a ∧ lo ≤ c) (hhi : b ≤ hi ∧ d ≤ hi) :
    prt (uni (uni F G) (edg o i2 none)) lo hi i o2 (fun s p q => ∃ m, r s p m ∧ r2 s m q) where
  li := by have := h.li; omega
  ih := by have := h.ih; omega
  lo' := by have := g.lo'; omega
  oh := by have := g.oh; omega
  e := fun x y l k => by
    rcases k with (k | k) | ⟨rfl, rfl, _⟩
    · have := h.e _ _ _ k; omega
    · have := g.e _ _ _ k; omega
    · have := h.lo'; have := h.oh; have := g.li; have := g.ih; omega
  m := fun s p q => by
    have hi1 := h.li; have hi2 := h.ih; have ho1 := h.lo'; have ho2 := h.oh; have gi1 := g.li; have gi2 := g.ih; have go1 := g.lo'; have go2 := g.oh
    constructor
    · intro k
      have := k.inv (I := fun x => ((a ≤ x.1 ∧ x.1 < b) → fms F s (i, p) x) ∧ ((c ≤ x.1 ∧ x.1 < d) → ∃ m, r s p m ∧ fms G s (i2, m) x)) (fun x y hx m => by
        rcases fm_uni m with m | m
        · rcases fm_uni m with m | m
          · have hm := h.fm m
            exact ⟨fun _ => (hx.1 hm.1).snoc m, fun hy => by omega⟩
          · have hm := g.fm m
            exact ⟨fun hy => by omega, fun _ => by obtain ⟨z, h1, h2⟩ := hx.2 hm.1; exact ⟨z, h1, h2.snoc m⟩⟩
        · obtain ⟨e1, rfl⟩ := fm_edg m
          obtain ⟨x1, x2⟩ := x
          dsimp only at e1
          subst e1
          exact ⟨fun hy => by simp only at hy; omega, fun _ => ⟨x2, (h.m _ _ _).1 (hx.1 ⟨ho1, ho2⟩), .refl _⟩⟩) ⟨fun _ => .refl _, fun hy => by simp only at hy; omega⟩
      obtain ⟨m, h1, h2⟩ := this.2 ⟨go1, go2⟩
      exact ⟨m, h1, (g.m _ _ _).1 h2⟩
    · rintro ⟨m, h1, h2⟩
      have k1 := ((h.m _ _ _).2 h1).mono (G := uni (uni F G) (edg o i2 none)) (fun _ _ _ k => .inl (.inl k))
      have k2 := ((g.m _ _ _).2 h2).mono (G := uni (uni F G) (edg o i2 none)) (fun _ _ _ k => .inl (.inr k))
      exact (k1.trans (.jump (.inr ⟨rfl, rfl, rfl⟩))).trans k2
/-- No edge leads to i, none from o. -/
def ends (F : Fs) (i o : Nat) : Prop := ∀ a b l, F a b l → b ≠ i ∧ a ≠ o
/-- Two states alone. -/
theorem part_none (i o : Nat) (hne : i ≠ o) {lo hi : Nat} (h : lo ≤ i ∧ i < hi ∧ lo ≤ o ∧ o < hi) : prt (fun _ _ _ => False) lo hi i o (fun _ _ _ => False) where
  li := h.1
  ih := h.2.1
  lo' := h.2.2.1
  oh := h.2.2.2
  e := fun x y l k => k.elim
  m := fun s p q => by
    refine ⟨fun k => ?_, fun k => k.elim⟩
    have := k.inv (I := fun x => x = (i, p)) (fun x y _ m => by cases m with
      | free _ m => exact m.elim
      | byte _ _ m => exact m.elim) rfl
    injection this with e _
    exact hne e.symm
/-- One more part side by side, between i and o. -/
theorem part_alt {F G : Fs} {a b c d i o i2 o2 : Nat} {r r2 : List Nat → Nat → Nat → Prop} (h : prt F a b i o r) (he : ends F i o) (hne : i ≠ o) (g : prt G c d i2 o2 r2) (hd : b ≤ c ∨ d ≤ a) {lo hi : Nat} (hlo : lo ≤ a ∧ lo ≤ c) (hhi : b ≤ hi ∧ d ≤ hi) :
    prt (uni (uni F G) (uni (edg i i2 none) (edg o2 o none))) lo hi i o (fun s p q => r s p q ∨ r2 s p q) ∧ ends (uni (uni F G) (uni (edg i i2 none) (edg o2 o none))) i o := by
  have hi1 := h.li; have hi2 := h.ih; have ho1 := h.lo'; have ho2 := h.oh; have gi1 := g.li; have gi2 := g.ih; have go1 := g.lo'; have go2 := g.oh
  refine ⟨⟨by omega, by omega, by omega, by omega, fun x y l k => ?_, fun s p q => ⟨fun k => ?_, fun k => ?_⟩⟩, fun x y l k => ?_⟩
  · rcases k with (k | k) | (⟨rfl, rfl, _⟩ | ⟨rfl, rfl, _⟩)
    · have := h.e _ _ _ k; omega
    · have := g.e _ _ _ k; omega
    · omega
    · omega
  · have := k.inv (I := fun x => ((a ≤ x.1 ∧ x.1 < b) → fms F s (i, p) x ∨ x.1 = o ∧ r2 s p x.2) ∧ ((c ≤ x.1 ∧ x.1 < d) → fms G s (i2, p) x)) (fun x y hx m => by
      rcases fm_uni m with m | m
      · rcases fm_uni m with m | m
        · have hm := h.fm m
          refine ⟨fun _ => ?_, fun hy => by omega⟩
          rcases hx.1 hm.1 with k | ⟨k, _⟩
          · exact .inl (k.snoc m)
          · exfalso
            cases m with
            | free p m' => exact (he _ _ _ m').2 k
            | byte hc hl m' => exact (he _ _ _ m').2 k
        · have hm := g.fm m
          exact ⟨fun hy => by omega, fun _ => (hx.2 hm.1).snoc m⟩
      · rcases fm_uni m with m | m
        · obtain ⟨e1, rfl⟩ := fm_edg m
          obtain ⟨x1, x2⟩ := x
          dsimp only at e1
          subst e1
          refine ⟨fun hy => by simp only at hy; omega, fun _ => ?_⟩
          rcases hx.1 ⟨hi1, hi2⟩ with k | ⟨k, _⟩
          · have k2 := k.inv (I := fun z => z.1 = x1 → z.2 = p) (fun z y _ m e => by
              exfalso
              cases m with
              | free p m' => exact (he _ _ _ m').1 e
              | byte hc hl m' => exact (he _ _ _ m').1 e) (fun _ => rfl) rfl
            simp only at k2
            subst k2
            exact .refl _
          · exact absurd k hne
        · obtain ⟨e1, rfl⟩ := fm_edg m
          obtain ⟨x1, x2⟩ := x
          dsimp only at e1
          subst e1
          exact ⟨fun _ => .inr ⟨rfl, (g.m _ _ _).1 (hx.2 ⟨go1, go2⟩)⟩, fun hy => by simp only at hy; omega⟩) ⟨fun _ => .inl (.refl _), fun hy => by simp only at hy; omega⟩
    rcases this.1 ⟨ho1, ho2⟩ with k | ⟨_, k⟩
    · exact .inl ((h.m _ _ _).1 k)
    · exact .inr k
  · rcases k with k | k
    · exact ((h.m _ _ _).2 k).mono (fun _ _ _ k => .inl (.inl k))
    · have k2 := ((g.m _ _ _).2 k).mono (G := uni (uni F G) (uni (edg i i2 none) (edg o2 o none))) (fun _ _ _ k => .inl (.inr k))
      exact ((fms.jump (.inr (.inl ⟨rfl, rfl, rfl⟩))).trans k2).trans (.jump (.inr (.inr ⟨rfl, rfl, rfl⟩)))
  · rcases k with (k | k) | (⟨rfl, rfl, _⟩ | ⟨rfl, rfl, _⟩)
    · exact he _ _ _ k
    · have := g.e _ _ _ k; omega
    · exact ⟨by omega, hne⟩
    · exact ⟨hne.symm, by omega⟩
/-- One time more and more: an edge from the last state back to the first one. -/
theorem part_plus {G : Fs} {c d i2 o2 : Nat} {r2 : List Nat → Nat → Nat → Prop} (g : prt G c d i2 o2 r2) : prt (uni G (edg o2 i2 none)) c d i2 o2 (fun s p q => ∃ m, RT (r2 s) p m ∧ r2 s m q) := by
  have gi1 := g.li; have gi2 := g.ih; have go1 := g.lo'; have go2 := g.oh
  refine ⟨by omega, by omega, by omega, by omega, fun x y l k => ?_, fun s p q => ⟨fun k => ?_, ?_⟩⟩
  · rcases k with k | ⟨rfl, rfl, _⟩
    · exact g.e _ _ _ k
    · omega
  · have := k.inv (I := fun x => ∃ m, RT (r2 s) p m ∧ fms G s (i2, m) x) (fun x y hx m => by
      obtain ⟨z, h1, h2⟩ := hx
      rcases fm_uni m with m | m
      · exact ⟨z, h1, h2.snoc m⟩
      · obtain ⟨e1, rfl⟩ := fm_edg m
        obtain ⟨x1, x2⟩ := x
        dsimp only at e1
        subst e1
        exact ⟨x2, h1.trans (.one ((g.m _ _ _).1 h2)), .refl _⟩) ⟨p, .refl _, .refl _⟩
    obtain ⟨m, h1, h2⟩ := this
    exact ⟨m, h1, (g.m _ _ _).1 h2⟩
  · rintro ⟨m, h1, h2⟩
    have k2 := ((g.m _ _ _).2 h2).mono (G := uni G (edg o2 i2 none)) (fun _ _ _ k => .inl k)
    refine fms.trans ?_ k2
    clear k2 h2
    induction h1 with
    | refl => exact .refl _
    | step h _ ih => exact ((((g.m _ _ _).2 h).mono (fun _ _ _ k => .inl k)).trans (.jump (.inr ⟨rfl, rfl, rfl⟩))).trans ih
/-- Between two new states: in, the part, out. -/
theorem part_wrap {G : Fs} {c d i o i2 o2 : Nat} {r2 : List Nat → Nat → Nat → Prop} (hne : i ≠ o) {lo hi : Nat} (hi' : lo ≤ i ∧ i < hi ∧ lo ≤ o ∧ o < hi) (hio : (i < c ∨ d ≤ i) ∧ (o < c ∨ d ≤ o)) (g : prt G c d i2 o2 r2) (hlo : lo ≤ c) (hhi : d ≤ hi) :
    prt (uni G (uni (edg i i2 none) (edg o2 o none))) lo hi i o r2 ∧ ends (uni G (uni (edg i i2 none) (edg o2 o none))) i o := by
  have gi1 := g.li; have gi2 := g.ih; have go1 := g.lo'; have go2 := g.oh
  refine ⟨⟨by omega, by omega, by omega, by omega, fun x y l k => ?_, fun s p q => ⟨fun k => ?_, fun k => ?_⟩⟩, fun x y l k => ?_⟩
  · rcases k with k | (⟨rfl, rfl, _⟩ | ⟨rfl, rfl, _⟩)
    · have := g.e _ _ _ k; omega
    · omega
    · omega
  · have := k.inv (I := fun x => (x.1 = i → x.2 = p) ∧ ((c ≤ x.1 ∧ x.1 < d) → fms G s (i2, p) x) ∧ (x.1 = o → r2 s p x.2)) (fun x y hx m => by
      rcases fm_uni m with m | m
      · have hm := g.fm m
        exact ⟨fun e => by omega, fun _ => (hx.2.1 hm.1).snoc m, fun e => by omega⟩
      · rcases fm_uni m with m | m
        · obtain ⟨e1, rfl⟩ := fm_edg m
          obtain ⟨x1, x2⟩ := x
          dsimp only at e1
          subst e1
          have e2 := hx.1 rfl
          simp only at e2
          subst e2
          exact ⟨fun e => by simp only at e; omega, fun _ => .refl _, fun e => by simp only at e; omega⟩
        · obtain ⟨e1, rfl⟩ := fm_edg m
          obtain ⟨x1, x2⟩ := x
          dsimp only at e1
          subst e1
          exact ⟨fun e => absurd e.symm hne, fun e => by simp only at e; omega, fun _ => (g.m _ _ _).1 (hx.2.1 ⟨go1, go2⟩)⟩) ⟨fun _ => rfl, fun e => by simp only at e; omega, fun e => absurd e hne⟩
    exact this.2.2 rfl
  · have k2 := ((g.m _ _ _).2 k).mono (G := uni G (uni (edg i i2 none) (edg o2 o none))) (fun _ _ _ k => .inl k)
    exact ((fms.jump (.inr (.inl ⟨rfl, rfl, rfl⟩))).trans k2).trans (.jump (.inr (.inr ⟨rfl, rfl, rfl⟩)))
  · rcases k with k | (⟨rfl, rfl, _⟩ | ⟨rfl, rfl, _⟩)
    · have := g.e _ _ _ k; omega
    · exact ⟨by omega, hne⟩
    · exact ⟨hne.symm, by omega⟩
/-- Or not at all. -/
theorem part_skip {F : Fs} {lo hi i o : Nat} {r : List Nat → Nat → Nat → Prop} (h : prt F lo hi i o r) (he : ends F i o) (hne : i ≠ o) : prt (uni F (edg i o none)) lo hi i o (fun s p q => p = q ∨ r s p q) ∧ ends (uni F (edg i o none)) i o := by
  have hi1 := h.li; have hi2 := h.ih; have ho1 := h.lo'; have ho2 := h.oh
  refine ⟨⟨by omega, by omega, by omega, by omega, fun x y l k => ?_, fun s p q => ⟨fun k => ?_, fun k => ?_⟩⟩, fun x y l k => ?_⟩
  · rcases k with k | ⟨rfl, rfl, _⟩
    · exact h.e _ _ _ k
    · omega
  · have := k.inv (I := fun x => fms F s (i, p) x ∨ x = (o, p)) (fun x y hx m => by
      rcases fm_uni m with m | m
      · rcases hx with hx | rfl
        · exact .inl (hx.snoc m)
        · exfalso
          cases m with
          | free p m' => exact (he _ _ _ m').2 rfl
          | byte hc hl m' => exact (he _ _ _ m').2 rfl
      · obtain ⟨e1, rfl⟩ := fm_edg m
        obtain ⟨x1, x2⟩ := x
        dsimp only at e1
        subst e1
        rcases hx with hx | hx
        · have k2 := hx.inv (I := fun z => z.1 = x1 → z.2 = p) (fun z y _ m e => by
            exfalso
            cases m with
            | free p m' => exact (he _ _ _ m').1 e
            | byte hc hl m' => exact (he _ _ _ m').1 e) (fun _ => rfl) rfl
          simp only at k2
          subst k2
          exact .inr rfl
        · injection hx with e _
          exact absurd e hne) (.inl (.refl _))
    rcases this with k | e
    · exact .inr ((h.m _ _ _).1 k)
    · injection e with _ e
      exact .inl e.symm
  · rcases k with rfl | k
    · exact .jump (.inr ⟨rfl, rfl, rfl⟩)
    · exact ((h.m _ _ _).2 k).mono (fun _ _ _ k => .inl k)
  · rcases k with k | ⟨rfl, rfl, _⟩
    · exact he _ _ _ k
    · exact ⟨hne.symm, hne⟩
end Go.Proofs.Ythjelilmlbbalaa.Af
namespace Go.Proofs.Ythjelilmlbbalaa.Ah
open Go.Proofs.Ythjelilmlbbalaa.Tm Go.Proofs.Ythjelilmlbbalaa.Rm Go.Proofs.Ythjelilmlbbalaa.Am Go.Proofs.Ythjelilmlbbalaa.An Go.Proofs.Ythjelilmlbbalaa.Af

/-- A chain: from i to l it matches rl, from i to o ro; no edge leads to i, none from o. -/
structure chn (F : Fs) (lo hi i l o : Nat) (rl ro : List Nat → Nat → Nat → Prop) : Prop where
  i1 : lo ≤ i
  i2 : i < hi
  l1 : lo ≤ l
  l2 : l < hi
  o1 : lo ≤ o
  o2 : o < hi
  lo' : l ≠ o
  io : i ≠ o
  e : ∀ a b k, F a b k → (lo ≤ a ∧ a < hi) ∧ lo ≤ b ∧ b < hi
  n : ends F i o
  ml : ∀ s p q, fms F s (i, p) (l, q) ↔ rl s p q
  mo : ∀ s p q, fms F s (i, p) (o, q) ↔ ro s p q
theorem chn.fm {F : Fs} {lo hi i l o : Nat} {rl ro : List Nat → Nat → Nat → Prop} (h : chn F lo hi i l o rl ro) {s : List Nat} {x y : Nat × Nat} (k : fm F s x y) : (lo ≤ x.1 ∧ x.1 < hi) ∧ lo ≤ y.1 ∧ y.1 < hi := by
  cases k with
  | free p k => exact h.e _ _ _ k
  | byte hc hl k => exact h.e _ _ _ k
/-- Nothing leads out of o. -/
theorem not_out {F : Fs} {i o : Nat} (n : ends F i o) {s : List Nat} {x y : Nat × Nat} (k : fm F s x y) : x.1 ≠ o ∧ y.1 ≠ i := by
  cases k with
  | free p k => exact ⟨(n _ _ _ k).2, (n _ _ _ k).1⟩
  | byte hc hl k => exact ⟨(n _ _ _ k).2, (n _ _ _ k).1⟩
theorem chn_start {i o lo hi : Nat} (hne : i ≠ o) (h : lo ≤ i ∧ i < hi ∧ lo ≤ o ∧ o < hi) : chn (fun _ _ _ => False) lo hi i i o (fun _ p q => p = q) (fun _ _ _ => False) where
  i1 := h.1
  i2 := h.2.1
  l1 := h.1
  l2 := h.2.1
  o1 := h.2.2.1
  o2 := h.2.2.2
  lo' := hne
  io := hne
  e := fun _ _ _ k => k.elim
  n := fun _ _ _ k => k.elim
  ml := fun s p q => by
    constructor
    · intro k
      have := k.inv (I := fun x => x = (i, p)) (fun x y _ m => by cases m with
        | free _ m => exact m.elim
        | byte _ _ m => exact m.elim) rfl
      injection this with _ e
      exact e.symm
    · rintro rfl; exact .refl _
  mo := fun s p q => by
    refine ⟨fun k => ?_, fun k => k.elim⟩
    have := k.inv (I := fun x => x = (i, p)) (fun x y _ m => by cases m with
      | free _ m => exact m.elim
      | byte _ _ m => exact m.elim) rfl
    injection this with e _
    exact hne e.symm
/-- A way out. -/
theorem chn_skip {F : Fs} {lo hi i l o : Nat} {rl ro : List Nat → Nat → Nat → Prop} (h : chn F lo hi i l o rl ro) : chn (uni F (edg l o none)) lo hi i l o rl (fun s p q => ro s p q ∨ rl s p q) where
  i1 := h.i1
  i2 := h.i2
  l1 := h.l1
  l2 := h.l2
  o1 := h.o1
  o2 := h.o2
  lo' := h.lo'
  io := h.io
  e := fun a b k m => by
    rcases m with m | ⟨rfl, rfl, _⟩
    · exact h.e _ _ _ m
    · exact ⟨⟨h.l1, h.l2⟩, h.o1, h.o2⟩
  n := fun a b k m => by
    rcases m with m | ⟨rfl, rfl, _⟩
    · exact h.n _ _ _ m
    · exact ⟨h.io.symm, h.lo'⟩
  ml := fun s p q => by
    constructor
    · intro k
      have := k.inv (I := fun x => fms F s (i, p) x ∨ x.1 = o) (fun x y hx m => by
        rcases fm_uni m with m | m
        · rcases hx with hx | hx
          · exact .inl (hx.snoc m)
          · exact absurd hx (not_out h.n m).1
        · obtain ⟨_, rfl⟩ := fm_edg m
          exact .inr rfl) (.inl (.refl _))
      exact this.elim (h.ml _ _ _).1 (fun e => absurd e h.lo')
    · intro k
      exact ((h.ml _ _ _).2 k).mono (fun _ _ _ k => .inl k)
  mo := fun s p q => by
    constructor
    · intro k
      have := k.inv (I := fun x => fms F s (i, p) x ∨ (x.1 = o ∧ rl s p x.2)) (fun x y hx m => by
        rcases fm_uni m with m | m
        · rcases hx with hx | hx
          · exact .inl (hx.snoc m)
          · exact absurd hx.1 (not_out h.n m).1
        · obtain ⟨e1, rfl⟩ := fm_edg m
          obtain ⟨x1, x2⟩ := x
          dsimp only at e1
          subst e1
          rcases hx with hx | hx
          · exact .inr ⟨rfl, (h.ml _ _ _).1 hx⟩
          · exact absurd hx.1 h.lo') (.inl (.refl _))
      rcases this with k | ⟨_, k⟩
      · exact .inl ((h.mo _ _ _).1 k)
      · exact .inr k
    · rintro (k | k)
      · exact ((h.mo _ _ _).2 k).mono (fun _ _ _ k => .inl k)
      · exact (((h.ml _ _ _).2 k).mono (fun _ _ _ k => .inl k)).trans (.jump (.inr ⟨rfl, rfl, rfl⟩))
/-- One part more. -/
theorem chn_copy {F G : Fs} {a b c d i l o i2 o2 : Nat} {rl ro r2 : List Nat → Nat → Nat → Prop} (h : chn F a b i l o rl ro) (g : prt G c d i2 o2 r2) (hd : b ≤ c ∨ d ≤ a) {lo hi : Nat} (hlo : lo ≤ a ∧ lo ≤ c) (hhi : b ≤ hi ∧ d ≤ hi) :
    chn (uni (uni F G) (edg l i2 none)) lo hi i o2 o (fun s p q => ∃ m, rl s p m ∧ r2 s m q) ro := by
  have hi1 := h.i1; have hi2 := h.i2; have hl1 := h.l1; have hl2 := h.l2; have ho1 := h.o1; have ho2 := h.o2; have gi1 := g.li; have gi2 := g.ih; have go1 := g.lo'; have go2 := g.oh
  have key : ∀ s p x, fms (uni (uni F G) (edg l i2 none)) s (i, p) x → ((a ≤ x.1 ∧ x.1 < b) → fms F s (i, p) x) ∧ ((c ≤ x.1 ∧ x.1 < d) → ∃ m, rl s p m ∧ fms G s (i2, m) x) := fun s p x k =>
    k.inv (I := fun x => ((a ≤ x.1 ∧ x.1 < b) → fms F s (i, p) x) ∧ ((c ≤ x.1 ∧ x.1 < d) → ∃ m, rl s p m ∧ fms G s (i2, m) x)) (fun x y hx m => by
      rcases fm_uni m with m | m
      · rcases fm_uni m with m | m
        · have hm := h.fm m
          exact ⟨fun _ => (hx.1 hm.1).snoc m, fun hy => by omega⟩
        · have hm := g.fm m
          exact ⟨fun hy => by omega, fun _ => by obtain ⟨z, h1, h2⟩ := hx.2 hm.1; exact ⟨z, h1, h2.snoc m⟩⟩
      · obtain ⟨e1, rfl⟩ := fm_edg m
        obtain ⟨x1, x2⟩ := x
        dsimp only at e1
        subst e1
        exact ⟨fun hy => by simp only at hy; omega, fun _ => ⟨x2, (h.ml _ _ _).1 (hx.1 ⟨hl1, hl2⟩), .refl _⟩⟩) ⟨fun _ => .refl _, fun hy => by simp only at hy; omega⟩
  refine ⟨by omega, by omega, by omega, by omega, by omega, by omega, by omega, h.io, fun x y k m => ?_, fun x y k m => ?_, fun s p q => ⟨fun k => ?_, ?_⟩, fun s p q => ⟨fun k => ?_, fun k => ?_⟩⟩
  · rcases m with (m | m) | ⟨rfl, rfl, _⟩
    · have := h.e _ _ _ m; omega
    · have := g.e _ _ _ m; omega
    · omega
  · rcases m with (m | m) | ⟨rfl, rfl, _⟩
    · exact h.n _ _ _ m
    · have := g.e _ _ _ m; omega
    · exact ⟨by omega, h.lo'⟩
  · obtain ⟨m, h1, h2⟩ := (key s p _ k).2 ⟨go1, go2⟩
    exact ⟨m, h1, (g.m _ _ _).1 h2⟩
  · rintro ⟨m, h1, h2⟩
    have k1 := ((h.ml _ _ _).2 h1).mono (G := uni (uni F G) (edg l i2 none)) (fun _ _ _ k => .inl (.inl k))
    have k2 := ((g.m _ _ _).2 h2).mono (G := uni (uni F G) (edg l i2 none)) (fun _ _ _ k => .inl (.inr k))
    exact (k1.trans (.jump (.inr ⟨rfl, rfl, rfl⟩))).trans k2
  · exact (h.mo _ _ _).1 ((key s p _ k).1 ⟨ho1, ho2⟩)
  · exact ((h.mo _ _ _).2 k).mono (fun _ _ _ k => .inl (.inl k))
/-- The chain as a part. -/
theorem chn.prt {F : Fs} {lo hi i l o : Nat} {rl ro : List Nat → Nat → Nat → Prop} (h : chn F lo hi i l o rl ro) : prt F lo hi i o ro := ⟨h.i1, h.i2, h.o1, h.o2, h.e, h.mo⟩
end Go.Proofs.Ythjelilmlbbalaa.Ah
namespace Go.Proofs.Ythjelilmlbbalaa.Ai
open Go.Proofs.Ythjelilmlbbalaa.Tm Go.Proofs.Ythjelilmlbbalaa.Rm Go.Proofs.Ythjelilmlbbalaa.Am Go.Proofs.Ythjelilmlbbalaa.An Go.Proofs.Ythjelilmlbbalaa.Af Go.Proofs.Ythjelilmlbbalaa.Ah

/-- An automaton's edges. -/
def ofE (E : List (List Eg)) : Fs := fun a b k => ∃ l e, E[a]? = some l ∧ e ∈ l ∧ e.to = (b : Int) ∧ k = (if e.free = true then none else some e.s)
theorem ofE_free {E : List (List Eg)} {a b : Nat} : ofE E a b none ↔ fre E a b := by
  constructor
  · rintro ⟨l, e, h1, h2, h3, h4⟩
    by_cases hf : e.free = true
    · exact ⟨l, e, h1, h2, hf, h3⟩
    · rw [if_neg hf] at h4; cases h4
  · rintro ⟨l, e, h1, h2, hf, h3⟩
    exact ⟨l, e, h1, h2, h3, by rw [if_pos hf]⟩
theorem mvs_ofE {E : List (List Eg)} {s : List Nat} {x y : Nat × Nat} : mvs E s x y ↔ fms (ofE E) s x y := by
  constructor
  · intro h
    induction h with
    | refl => exact .refl _
    | step h _ ih =>
      refine .step ?_ ih
      cases h with
      | free p h => exact .free p (ofE_free.2 h)
      | byte hc h =>
        obtain ⟨l, e, h1, h2, hf, hs, h3⟩ := h
        exact .byte hc hs ⟨l, e, h1, h2, h3, by rw [if_neg (by rw [hf]; decide)]⟩
  · intro h
    induction h with
    | refl => exact .refl _
    | step h _ ih =>
      refine .step ?_ ih
      cases h with
      | free p h => exact .free p (ofE_free.1 h)
      | byte hc hs h =>
        obtain ⟨l, e, h1, h2, h3, h4⟩ := h
        by_cases hf : e.free = true
        · rw [if_pos hf] at h4; cases h4
        · rw [if_neg hf] at h4
          obtain rfl := Option.some.inj h4
          exact .byte hc ⟨l, e, h1, h2, by simpa using hf, hs, h3⟩
/-- A first state and parts that begin from it. -/
structure root (F : Fs) (lo hi f : Nat) : Prop where
  f1 : lo ≤ f
  f2 : f < hi
  e : ∀ a b k, F a b k → (lo ≤ a ∧ a < hi) ∧ lo ≤ b ∧ b < hi
  n : ∀ a b k, F a b k → b ≠ f
theorem root.fm {F : Fs} {lo hi f : Nat} (h : root F lo hi f) {s : List Nat} {x y : Nat × Nat} (k : fm F s x y) : (lo ≤ x.1 ∧ x.1 < hi) ∧ (lo ≤ y.1 ∧ y.1 < hi) ∧ y.1 ≠ f := by
  cases k with
  | free p k => exact ⟨(h.e _ _ _ k).1, (h.e _ _ _ k).2, h.n _ _ _ k⟩
  | byte hc hl k => exact ⟨(h.e _ _ _ k).1, (h.e _ _ _ k).2, h.n _ _ _ k⟩
theorem root_start (f : Nat) {lo hi : Nat} (h : lo ≤ f ∧ f < hi) : root (fun _ _ _ => False) lo hi f := ⟨h.1, h.2, fun _ _ _ k => k.elim, fun _ _ _ k => k.elim⟩
theorem root_stay {F : Fs} {lo hi f : Nat} (h : root F lo hi f) {s : List Nat} {p q : Nat} (k : fms F s (f, p) (f, q)) : p = q := by
  have := k.inv (I := fun x => x.1 = f → x.2 = p) (fun x y _ m e => absurd e (h.fm m).2.2) (fun _ => rfl)
  exact (this rfl).symm
/-- One part more. -/
theorem root_add {F G : Fs} {a b c d f i2 o2 : Nat} {r2 : List Nat → Nat → Nat → Prop} (h : root F a b f) (g : prt G c d i2 o2 r2) (hd : b ≤ c ∨ d ≤ a) {lo hi : Nat} (hlo : lo ≤ a ∧ lo ≤ c) (hhi : b ≤ hi ∧ d ≤ hi) :
    root (uni (uni F G) (edg f i2 none)) lo hi f ∧ (∀ s p z q, a ≤ z → z < b → (fms (uni (uni F G) (edg f i2 none)) s (f, p) (z, q) ↔ fms F s (f, p) (z, q))) ∧ (∀ s p q, fms (uni (uni F G) (edg f i2 none)) s (f, p) (o2, q) ↔ r2 s p q) := by
  have hf1 := h.f1; have hf2 := h.f2; have gi1 := g.li; have gi2 := g.ih; have go1 := g.lo'; have go2 := g.oh
  have key : ∀ s p x, fms (uni (uni F G) (edg f i2 none)) s (f, p) x → ((a ≤ x.1 ∧ x.1 < b) → fms F s (f, p) x) ∧ ((c ≤ x.1 ∧ x.1 < d) → fms G s (i2, p) x) := fun s p x k =>
    k.inv (I := fun x => ((a ≤ x.1 ∧ x.1 < b) → fms F s (f, p) x) ∧ ((c ≤ x.1 ∧ x.1 < d) → fms G s (i2, p) x)) (fun x y hx m => by
      rcases fm_uni m with m | m
      · rcases fm_uni m with m | m
        · have hm := h.fm m
          exact ⟨fun _ => (hx.1 hm.1).snoc m, fun hy => by omega⟩
        · have hm := g.fm m
          exact ⟨fun hy => by omega, fun _ => (hx.2 hm.1).snoc m⟩
      · obtain ⟨e1, rfl⟩ := fm_edg m
        obtain ⟨x1, x2⟩ := x
        dsimp only at e1
        subst e1
        have e2 := root_stay h (hx.1 ⟨hf1, hf2⟩)
        subst e2
        exact ⟨fun hy => by simp only at hy; omega, fun _ => .refl _⟩) ⟨fun _ => .refl _, fun hy => by simp only at hy; omega⟩
  refine ⟨⟨by omega, by omega, fun x y k m => ?_, fun x y k m => ?_⟩, fun s p z q z1 z2 => ⟨fun k => (key s p _ k).1 ⟨z1, z2⟩, fun k => k.mono (fun _ _ _ k => .inl (.inl k))⟩, fun s p q => ⟨fun k => (g.m _ _ _).1 ((key s p _ k).2 ⟨go1, go2⟩), fun k => ?_⟩⟩
  · rcases m with (m | m) | ⟨rfl, rfl, _⟩
    · have := h.e _ _ _ m; omega
    · have := g.e _ _ _ m; omega
    · omega
  · rcases m with (m | m) | ⟨rfl, rfl, _⟩
    · exact h.n _ _ _ m
    · have := g.e _ _ _ m; omega
    · omega
  · exact (fms.jump (.inr ⟨rfl, rfl, rfl⟩)).trans (((g.m _ _ _).2 k).mono (fun _ _ _ k => .inl (.inr k)))
/-- One edge more in an automaton's lists. -/
theorem ofE_add {E : List (List Eg)} {a : Nat} (ha : a < E.length) (e : Eg) {b : Nat} (hb : e.to = (b : Int)) : ∀ x y k, ofE (E.set a (E.getD a [] ++ [e])) x y k ↔ uni (ofE E) (edg a b (if e.free = true then none else some e.s)) x y k := fun x y k => by
  have hg : E.getD a [] = E[a] := by rw [List.getD_eq_getElem?_getD, List.getElem?_eq_getElem ha]; rfl
  unfold ofE uni edg
  by_cases hx : x = a
  · subst hx
    rw [List.getElem?_set_self ha, hg]
    constructor
    · rintro ⟨l, e', h1, h2, h3, h4⟩
      obtain rfl := Option.some.inj h1
      rcases List.mem_append.1 h2 with h2 | h2
      · exact .inl ⟨E[x], e', List.getElem?_eq_getElem ha, h2, h3, h4⟩
      · obtain rfl := List.mem_singleton.1 h2
        exact .inr ⟨rfl, by omega, h4⟩
    · rintro (⟨l, e', h1, h2, h3, h4⟩ | ⟨_, rfl, h4⟩)
      · rw [List.getElem?_eq_getElem ha] at h1
        obtain rfl := Option.some.inj h1
        exact ⟨_, e', rfl, List.mem_append_left _ h2, h3, h4⟩
      · exact ⟨_, e, rfl, List.mem_append_right _ (List.mem_singleton.2 rfl), hb, h4⟩
  · rw [List.getElem?_set_ne (fun e => hx e.symm)]
    exact ⟨.inl, fun h => h.elim id (fun h => absurd h.1 hx)⟩
/-- A state more, without edges. -/
theorem ofE_state (E : List (List Eg)) : ∀ x y k, ofE (E ++ [[]]) x y k ↔ ofE E x y k := fun x y k => by
  unfold ofE
  constructor
  · rintro ⟨l, e, h1, h2, h3⟩
    by_cases hx : x < E.length
    · rw [List.getElem?_append_left hx] at h1; exact ⟨l, e, h1, h2, h3⟩
    · have hlt := (List.getElem?_eq_some_iff.1 h1).1
      rw [List.length_append] at hlt
      have : x = E.length := by simp at hlt; omega
      subst this
      rw [List.getElem?_append_right (Nat.le_refl _), Nat.sub_self] at h1
      obtain rfl := Option.some.inj h1
      cases h2
  · rintro ⟨l, e, h1, h2, h3⟩
    exact ⟨l, e, by rw [List.getElem?_append_left (List.getElem?_eq_some_iff.1 h1).1]; exact h1, h2, h3⟩
end Go.Proofs.Ythjelilmlbbalaa.Ai
