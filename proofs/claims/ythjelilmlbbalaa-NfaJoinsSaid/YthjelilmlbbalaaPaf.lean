/-
  Sets of bytes in memory: add.
  Expressions in lists (layer 15): trees, their nodes in preorder, how an expression is read (what is read or the first error).
  Sets of bytes in memory: OnesCount64, Count, Bytes.
  The bytes of a set as a string: Bytes, the reference's Has, with, Of, Range, Bytes, Not, Or, And.
  The reference's sets: Has, with, Range, Bytes, Not, And.
  Conditions: as each theorem says.
-/
import Derived.Test.YthjelilmlbbalaaPab
import Derived.Test.YthjelilmlbbalaaRows
import Derived.Test.YthjelilmlbbalaaPad
import Derived.Test.YthjelilmlbbalaaPae
import Derived.Deep.WholeRow
import Derived.WalkSpells
import Derived.WalkLawsBesides
import Derived.Laws.Bits128
namespace Go.Proofs.Ythjelilmlbbalaa.Tb
open Go.RowKit Go.Proofs.Ythjelilmlbbalaa.Vm Go.Proofs.Ythjelilmlbbalaa.Vo Go.Proofs.Ythjelilmlbbalaa.Bw Go.Proofs.Ythjelilmlbbalaa.Na Go.Proofs.Ythjelilmlbbalaa.Tm Go.Proofs.Ythjelilmlbbalaa.Ta

/-- A set's cells. -/
def sv (a : List Nat) : Array Value := (a.map fun x : Nat => Value.int .u64 (x : Int)).toArray
theorem sv_size (a : List Nat) : (sv a).size = a.length := by simp [sv]
theorem sv_get {a : List Nat} {i x : Nat} (h : a[i]? = some x) : (sv a)[i]? = some (.int .u64 (x : Int)) := by simp [sv, h]
theorem sv_set (a : List Nat) (k x : Nat) : (sv a).setIfInBounds k (.int .u64 (x : Int)) = sv (a.set k x) := by
  simp [sv, List.map_set]
theorem sv_one (a : List Nat) : (sv a).all (·.oneCell') = true := by
  rw [Array.all_eq_true]
  intro i hi
  simp [sv, Value.oneCell']
theorem sv_zero : Array.replicate 4 (Value.int .u64 0) = sv zero := rfl
theorem infoS : (Try.prog.info? 64).map (fun i => (i.zero, i.size)) = some (some (.agg (Array.replicate 4 (.int .u64 0))), 4) := by kernel_rfl

theorem or_pow {x r : Nat} (hx : x < 18446744073709551616) (hr : r < 64) : bits .or .u64 (x : Int) (IntKind.u64.wrap (2 ^ r)) = ((x ||| 2 ^ r : Nat) : Int) := by
  have hp : 2 ^ r < 18446744073709551616 := show 2 ^ r < 2 ^ 64 from Nat.pow_lt_pow_right (by omega) hr
  have e : (2 : Int) ^ r = ((2 ^ r : Nat) : Int) := by push_cast; rfl
  rw [e]
  generalize 2 ^ r = m at *
  rw [IntKind.wrap_u64, Int.emod_eq_of_lt (by omega) (by omega)]
  exact u64_or_nat x m hx hp
theorem has_bit {x r : Nat} (hx : x < 18446744073709551616) : decide (bits .and .u64 ((x : Int) / 2 ^ r) 1 = 1) = x.testBit r := by
  have e : (x : Int) / 2 ^ r = ((x / 2 ^ r : Nat) : Int) := by simp
  have h1 : x / 2 ^ r ≤ x := Nat.div_le_self _ _
  rw [e]
  have := u64_and_nat (x / 2 ^ r) 1 (by omega) (by omega)
  rw [show (((1 : Nat) : Int)) = 1 from rfl] at this
  rw [this, Nat.testBit_eq_decide_div_mod_eq, Nat.and_one_is_mod]
  exact decide_eq_decide.2 (by omega)
set_option maxRecDepth 100000 in
theorem Has_any {c : Nat} {a : List Nat} (ha : isSet a) (hc : c < 256) (w : World) :
    Calls Try.prog 58 #[.agg (sv a), .int .u8 c] w fun e w' => e = .returned (.bool (has a c)) ∧ Below w.heap.size w w' := by
  obtain ⟨q, hq⟩ : ∃ q, q = c / 64 := ⟨_, rfl⟩
  obtain ⟨r, hr⟩ : ∃ r, r = c % 64 := ⟨_, rfl⟩
  have hq4 : q < 4 := by omega
  have hr64 : r < 64 := by omega
  obtain ⟨x, hx⟩ : ∃ x, x = a.getD q 0 := ⟨_, rfl⟩
  have hcell : (w.alloc (.cells (sv a) 64)).cell? ⟨w.heap.size, q, none⟩ = some (.int .u64 x) := by rw [(Blk.fresh w _ _).cell, sv_get (by rw [get_of ha hq4, ← hx])]
  have h1 : (c : Int) / 64 = q := by omega
  have h2 : (c : Int) % 64 = r := by omega
  have hxl : x < 18446744073709551616 := by rw [hx]; exact word_lt ha q
  have HH : Hid (has a c = x.testBit r) := Lib.hid (by rw [hx, hq, hr]; rfl)
  clear hq hr hx
  go_enter Try.func58, Try.ntmps58
  go_wp2
  go_ret
  exact ⟨ret_bool (by rw [HH.out, ← has_bit hxl]; rfl), below_alloc _ _⟩

theorem infoU : (Try.prog.info? 5).map (fun i => (i.zero, i.size, i.bytes)) = some (some (.int .u8 0), 1, 1) := by kernel_rfl
theorem sizeS : (Try.prog.info? 64).map (·.size) = some 4 := by kernel_rfl
theorem fit {z : Array Value} (h : z.size = 4) : (Try.prog.info? 64).map (·.size) = some z.size := by rw [h]; exact sizeS
theorem sv4 {a : List Nat} (h : isSet a) : (sv a).size = 4 := by rw [sv_size, h.l]
theorem take_next (s : ByteArray) (k : Nat) (h : k < s.size) : s.data.toList.take (k + 1) = s.data.toList.take k ++ [s[k]] := by
  rw [List.take_add_one]; simp [h]; rfl
theorem take_all (s : ByteArray) : s.data.toList.take s.size = s.data.toList := List.take_of_length_le (by simp)
theorem ofS_snoc (l : List UInt8) (x : UInt8) : ofS (l ++ [x]) = wth (ofS l) x.toNat := by simp [ofS]
theorem two_start (w : World) (t : TypeId) (c1 c2 : Array Value) : Blk ((w.alloc (.cells c1 t)).alloc (.cells c2 t)) w.heap.size t c1 ∧ Blk ((w.alloc (.cells c1 t)).alloc (.cells c2 t)) (w.heap.size + 1) t c2 ∧ Below w.heap.size w ((w.alloc (.cells c1 t)).alloc (.cells c2 t)) := by
  refine ⟨(Blk.fresh w _ _).below (below_alloc _ _), ?_, grows (below_alloc _ _) (below_alloc _ _)⟩
  have := Blk.fresh (w.alloc (.cells c1 t)) t c2
  rw [size_alloc] at this; exact this
/-- What a call that changes one block of the caller's own leaves. -/
theorem below_only {B g : Nat} {W a b : World} (k : Below B W a) (h : Only (· = g) a b) (hg : B ≤ g) (hB : B ≤ a.heap.size) : Below B W b := h.below k hB (fun i hi => by subst hi; exact hg)

/-- A set whose words are changed one by one, in the box of the call's own. -/
theorem mix_cell {w : World} {g k : Nat} {f : Nat → Nat → Nat} {a b : List Nat} (h : Blk w g 64 (sv (mix f a b k))) (hk : k < 4) : w.cell? ⟨g, k, none⟩ = some (.int .u64 (a.getD k 0 : Nat)) := by
  rw [h.cell, sv_get (mix_get hk), if_neg (Nat.lt_irrefl k)]
theorem set_cell {w : World} {g k : Nat} {a : List Nat} (h : Blk w g 64 (sv a)) (ha : isSet a) (hk : k < 4) : w.cell? ⟨g, k, none⟩ = some (.int .u64 (a.getD k 0 : Nat)) := by
  rw [h.cell, sv_get (get_of ha hk)]
theorem mix_store {w : World} {g k : Nat} {f : Nat → Nat → Nat} {a b : List Nat} (h : Blk w g 64 (sv (mix f a b k))) (hk : k < 4) :
    Blk (w.setCell ⟨g, k, none⟩ (.int .u64 (f (a.getD k 0) (b.getD k 0) : Nat))) g 64 (sv (mix f a b (k + 1))) := by
  have := h.store k (.int .u64 (f (a.getD k 0) (b.getD k 0) : Nat))
  rw [sv_set, mix_step hk] at this
  exact this

theorem not_bits {x : Nat} (hx : x < 18446744073709551616) : bits BinOp.xor IntKind.u64 (if IntKind.u64.signed = true then -1 else IntKind.u64.max) (x : Int) = ((fNot x x : Nat) : Int) := by
  have e : (if IntKind.u64.signed = true then -1 else IntKind.u64.max) = ((18446744073709551615 : Nat) : Int) := by decide
  rw [e, u64_xor_nat _ x (by omega) hx]
  congr 1
  refine Nat.eq_of_testBit_eq fun i => ?_
  have h1 := Nat.testBit_two_pow_sub_succ (n := 64) (x := x) hx i
  have h2 : fNot x x = 2 ^ 64 - (x + 1) := by unfold fNot; omega
  rw [h2, h1, Nat.testBit_xor, show (18446744073709551615 : Nat) = 2 ^ 64 - 1 from rfl, Nat.testBit_two_pow_sub_one]
  by_cases hi : i < 64
  · simp [hi]
  · rw [Nat.testBit_lt_two_pow (x := x) (i := i) (Nat.lt_of_lt_of_le (show x < 2 ^ 64 from hx) (Nat.pow_le_pow_right (by omega) (by omega)))]
    simp [hi]
/-- The bytes from one on, below another one. -/
def frm (x : Nat) (n : Nat) : List Nat := upto (fun c => decide (x ≤ c)) n
theorem frm_set (x n : Nat) : isSet (frm x n) := upto_set _ _
theorem frm_zero (x : Nat) : frm x x = zero := by
  have h : ∀ n, n ≤ x → upto (fun c => decide (x ≤ c)) n = zero := fun n => by
    induction n with
    | zero => intro _; rfl
    | succ n ih => intro h; unfold upto; rw [if_neg (by simp; omega)]; exact ih (by omega)
  exact h x (Nat.le_refl _)
theorem frm_low {x n : Nat} (h : n ≤ x) : frm x n = zero := by
  unfold frm
  induction n with
  | zero => rfl
  | succ n ih => unfold upto; rw [if_neg (by simp; omega)]; exact ih (by omega)
theorem frm_step {x n : Nat} (h : x ≤ n) : frm x (n + 1) = wth (frm x n) n := by
  show (if decide (x ≤ n) = true then _ else _) = _
  rw [if_pos (by simpa using h)]; rfl
theorem has_frm {x y c : Nat} (hy : y < 256) (hc : c < 256) : has (frm x (y + 1)) c = (decide (x ≤ c) && decide (c ≤ y)) := by
  unfold frm
  rw [has_upto _ _ (by omega) c hc, Bool.and_comm]
  congr 1
  exact decide_eq_decide.2 (by omega)

end Go.Proofs.Ythjelilmlbbalaa.Tb
namespace Go.Proofs.Ythjelilmlbbalaa.Rm
open Go.Proofs.Ythjelilmlbbalaa.Tm Go.Proofs.Ythjelilmlbbalaa.Ts Go.Proofs.Ythjelilmlbbalaa.Ta Go.Proofs.Ythjelilmlbbalaa.Tb

/-- A tree. -/
inductive T where
  | set (a : List Nat)
  | emp
  | cat (l : List T)
  | alt (l : List T)
  | star (t : T)
  | plus (t : T)
  | opt (t : T)
  | rep (lo : Nat) (hi : Int) (t : T)
/-- A node. -/
structure Nd where
  k : Int
  n : Int
  s : List Nat
  lo : Int
  hi : Int
mutual
/-- A tree's nodes, each ahead of its children. -/
def enc : T → List Nd
  | .set a => [⟨1, 0, a, 0, 0⟩]
  | .emp => [⟨2, 0, zero, 0, 0⟩]
  | .cat l => ⟨3, l.length, zero, 0, 0⟩ :: encs l
  | .alt l => ⟨4, l.length, zero, 0, 0⟩ :: encs l
  | .star t => ⟨5, 1, zero, 0, 0⟩ :: enc t
  | .plus t => ⟨6, 1, zero, 0, 0⟩ :: enc t
  | .opt t => ⟨7, 1, zero, 0, 0⟩ :: enc t
  | .rep lo hi t => ⟨8, 1, zero, lo, hi⟩ :: enc t
def encs : List T → List Nd
  | [] => []
  | t :: l => enc t ++ encs l
end
mutual
/-- A right tree. -/
def okT : T → Prop
  | .set a => isSet a ∧ a ≠ zero
  | .emp => True
  | .cat l => 2 ≤ l.length ∧ okTs l
  | .alt l => 2 ≤ l.length ∧ okTs l
  | .star t => okT t
  | .plus t => okT t
  | .opt t => okT t
  | .rep lo hi t => lo ≤ 30 ∧ (hi = -1 ∨ ((lo : Int) ≤ hi ∧ hi ≤ 30)) ∧ okT t
def okTs : List T → Prop
  | [] => True
  | t :: l => okT t ∧ okTs l
end
/-- What comes of reading: an error, with how many bytes are left where it is; or something, and what is left. -/
inductive Out (α : Type) where
  | err (e : Nat) (at' : Nat)
  | ok (x : α) (r : List Nat)
def digQ (c : Nat) : Bool := decide (48 ≤ c) && decide (c ≤ 57)
/-- One or two digits. -/
def numP : List Nat → Out Nat
  | [] => .err 15 0
  | c :: r => if digQ c = true then
      match r with
      | d :: r' => if digQ d = true then .ok (10 * (c - 48) + (d - 48)) r' else .ok (c - 48) (d :: r')
      | [] => .ok (c - 48) []
    else .err 15 (r.length + 1)
/-- What stands behind a { : at' bytes are left where that stands. -/
def endP (at' lo : Nat) (hi : Int) : List Nat → Out (Nat × Int)
  | [] => .err 15 0
  | c :: r => if c = 125 then (if 30 < lo ∨ 30 < hi ∨ (0 ≤ hi ∧ hi < (lo : Int)) then .err 18 at' else .ok (lo, hi) r) else .err 15 (r.length + 1)
def timP (at' : Nat) (r : List Nat) : Out (Nat × Int) :=
  match numP r with
  | .err e k => .err e k
  | .ok lo r1 =>
    match r1 with
    | 44 :: r2 =>
      if r2.head? = some 125 then endP at' lo (-1) r2
      else match numP r2 with
        | .err e k => .err e k
        | .ok hi r3 => endP at' lo (hi : Int) r3
    | _ => endP at' lo (lo : Int) r1
def hexP (c : Nat) : Option Nat := if 48 ≤ c ∧ c ≤ 57 then some (c - 48) else if 97 ≤ c ∧ c ≤ 102 then some (c - 87) else none
def one (c : Nat) : List Nat := ofS [UInt8.ofNat c]
def digS : List Nat := frm 48 58
def worS : List Nat := orL (one 95) (orL (frm 48 58) (orL (frm 65 91) (frm 97 123)))
/-- An ESCAPE behind its backslash: a set; where it is one byte alone: that one. -/
def escP : List Nat → Out (List Nat × Option Nat)
  | [] => .err 15 0
  | c :: r =>
    if c = 110 then .ok (one 10, some 10) r
    else if c = 116 then .ok (one 9, some 9) r
    else if c = 115 then .ok (one 32, some 32) r
    else if c = 100 then .ok (digS, none) r
    else if c = 119 then .ok (worS, none) r
    else if c = 120 then
      match r with
      | h1 :: h2 :: r2 =>
        match hexP h1, hexP h2 with
        | some x, some y => .ok (one (16 * x + y), some (16 * x + y)) r2
        | _, _ => .err 15 (r.length + 1)
      | _ => .err 15 (r.length + 1)
    else if c ∈ maskL then .ok (one c, some c) r
    else .err 15 (r.length + 1)
/-- A char of a class. -/
def chrP : List Nat → Out (List Nat × Option Nat)
  | [] => .err 15 0
  | c :: r => if c = 92 then escP r else if c = 45 then .err 15 (r.length + 1) else .ok (one c, some c) r
/-- A class that has been opened where at' bytes are left. -/
def clsP (at' : Nat) (neg : Bool) : Nat → List Nat → List Nat → Out (List Nat)
  | 0, _, _ => .err 0 0
  | _ + 1, _, [] => .err 16 at'
  | f + 1, acc, c :: r =>
    if c = 93 then
      (if (if neg = true then notL acc else acc) = zero then .err 17 at' else .ok (if neg = true then notL acc else acc) r)
    else
      match chrP (c :: r) with
      | .err e k => .err e k
      | .ok (x, o) r1 =>
        match r1 with
        | 45 :: r2 =>
          match r2 with
          | [] => .err 16 at'
          | d :: r3 =>
            if d = 93 then .err 15 (r3.length + 1)
            else match chrP (d :: r3) with
              | .err e k => .err e k
              | .ok (_, o') r4 =>
                match o, o' with
                | some lo, some hi => if hi < lo then .err 18 r1.length else clsP at' neg f (orL acc (frm lo (hi + 1))) r4
                | _, _ => .err 18 r1.length
        | _ => clsP at' neg f (orL acc x) r1
def spcQ (c : Nat) : Prop := c ∈ [92, 91, 93, 40, 41, 123, 125, 42, 43, 63, 124, 46]
instance (c : Nat) : Decidable (spcQ c) := by unfold spcQ; infer_instance
def many (f : List T → T) : List T → T
  | [t] => t
  | l => f l
/-- The part that is read. -/
inductive Pt where
  | alt
  | alts (acc : List T)
  | cat (acc : List T)
  | rep
  | reps (t : T)
  | atom
/-- How an expression is read: f bounds the depth. -/
def prs : Nat → Pt → List Nat → Out T
  | 0, _, _ => .err 0 0
  | f + 1, .alt, r => match prs f (.cat []) r with
    | .err e k => .err e k
    | .ok t r1 => prs f (.alts [t]) r1
  | f + 1, .alts acc, r =>
    match r with
    | [] => .ok (many .alt acc) []
    | c :: r1 => if c = 124 then
        match prs f (.cat []) r1 with
        | .err e k => .err e k
        | .ok t r2 => prs f (.alts (acc ++ [t])) r2
      else .ok (many .alt acc) (c :: r1)
  | f + 1, .cat acc, r =>
    match r with
    | [] => .ok (if acc = [] then .emp else many .cat acc) []
    | c :: r1 => if c = 124 ∨ c = 41 then .ok (if acc = [] then .emp else many .cat acc) (c :: r1)
      else match prs f .rep (c :: r1) with
        | .err e k => .err e k
        | .ok t r2 => prs f (.cat (acc ++ [t])) r2
  | f + 1, .rep, r => match prs f .atom r with
    | .err e k => .err e k
    | .ok t r1 => prs f (.reps t) r1
  | f + 1, .reps t, r =>
    match r with
    | [] => .ok t []
    | c :: r1 =>
      if c = 42 then prs f (.reps (.star t)) r1
      else if c = 43 then prs f (.reps (.plus t)) r1
      else if c = 63 then prs f (.reps (.opt t)) r1
      else if c = 123 then
        match timP (r1.length + 1) r1 with
        | .err e k => .err e k
        | .ok (lo, hi) r2 => prs f (.reps (.rep lo hi t)) r2
      else .ok t (c :: r1)
  | f + 1, .atom, r =>
    match r with
    | [] => .err 15 0
    | c :: r1 =>
      if c = 40 then
        match prs f .alt r1 with
        | .err e k => .err e k
        | .ok t r2 =>
          match r2 with
          | d :: r3 => if d = 41 then .ok t r3 else .err 16 (r1.length + 1)
          | [] => .err 16 (r1.length + 1)
      else if c = 91 then
        match r1 with
        | d :: r2 => if d = 94 then (match clsP (r1.length + 1) true (r2.length + 1) zero r2 with
            | .err e k => .err e k
            | .ok a r3 => .ok (.set a) r3)
          else (match clsP (r1.length + 1) false (r1.length + 1) zero r1 with
            | .err e k => .err e k
            | .ok a r3 => .ok (.set a) r3)
        | [] => .err 16 1
      else if c = 46 then .ok (.set (notL (one 10))) r1
      else if c = 92 then
        match escP r1 with
        | .err e k => .err e k
        | .ok (a, _) r2 => .ok (.set a) r2
      else if spcQ c then .err 15 (r1.length + 1)
      else .ok (.set (one c)) r1
/-- An expression's tree, or the error and its place. -/
def parseQ (s : List Nat) : Nat × Nat × List Nd :=
  if 512 < s.length then (3, 512, [])
  else match prs (6 * s.length + 6) .alt s with
    | .err e k => (e, s.length - k, [])
    | .ok t r => if r = [] then (if 400 < (enc t).length then (3, 0, []) else (0, 0, enc t)) else (15, s.length - r.length, [])
end Go.Proofs.Ythjelilmlbbalaa.Rm
namespace Go.Proofs.Ythjelilmlbbalaa.Tc
open Go.RowKit Go.Proofs.Ythjelilmlbbalaa.Vm Go.Proofs.Ythjelilmlbbalaa.Vo Go.Proofs.Ythjelilmlbbalaa.Bw Go.Proofs.Ythjelilmlbbalaa.Na Go.Proofs.Ythjelilmlbbalaa.Tm Go.Proofs.Ythjelilmlbbalaa.Ta Go.Proofs.Ythjelilmlbbalaa.Tb

theorem and_sum (x d m : Nat) (hx : x < 18446744073709551616) (hm : 2 * m < 18446744073709551616) :
    IntKind.u64.wrap (bits .and .u64 ((x : Int) / d) (m : Int) + bits .and .u64 (x : Int) (m : Int)) = (((x / d &&& m) + (x &&& m) : Nat) : Int) ∧ (x / d &&& m) + (x &&& m) ≤ 2 * m := by
  have e : (x : Int) / d = ((x / d : Nat) : Int) := by simp
  have h1 : x / d ≤ x := Nat.div_le_self _ _
  have h2 : x / d &&& m ≤ m := Nat.and_le_right
  have h3 : x &&& m ≤ m := Nat.and_le_right
  rw [e, u64_and_nat _ _ (by omega) (by omega), u64_and_nat _ _ hx (by omega), IntKind.wrap_u64]
  generalize x / d &&& m = p at *
  generalize x &&& m = q at *
  exact ⟨by omega, by omega⟩
theorem shr_sum (x d : Nat) (h : x + x / d < 18446744073709551616) : IntKind.u64.wrap ((x : Int) + (x : Int) / d) = ((x + x / d : Nat) : Int) := by
  have e : (x : Int) / d = ((x / d : Nat) : Int) := by simp
  rw [e, IntKind.wrap_u64]
  generalize x / d = p at *
  omega
end Go.Proofs.Ythjelilmlbbalaa.Tc
namespace Go.Proofs.Ythjelilmlbbalaa.Td
open Go.RowKit Go.Proofs.Ythjelilmlbbalaa.Vm Go.Proofs.Ythjelilmlbbalaa.Vo Go.Proofs.Ythjelilmlbbalaa.Bw Go.Proofs.Ythjelilmlbbalaa.Na Go.Proofs.Ythjelilmlbbalaa.Tm Go.Proofs.Ythjelilmlbbalaa.Ta Go.Proofs.Ythjelilmlbbalaa.Tb Go.Proofs.Ythjelilmlbbalaa.Tc

/-- The bytes of a set below k, as bytes. -/
def btTo (a : List Nat) (k : Nat) : List UInt8 := ((List.range k).filter (has a)).map UInt8.ofNat
def bts (a : List Nat) : List UInt8 := (byt a).map UInt8.ofNat
theorem btTo_len (a : List Nat) (k : Nat) : (btTo a k).length ≤ k := by
  unfold btTo
  rw [List.length_map]
  exact Nat.le_trans (List.length_filter_le _ _) (by simp)
theorem btTo_yes {a : List Nat} {k : Nat} (h : has a k = true) : btTo a (k + 1) = btTo a k ++ [UInt8.ofNat k] := by
  unfold btTo
  rw [List.range_succ, List.filter_append, List.filter_cons, if_pos h]; simp
theorem btTo_no {a : List Nat} {k : Nat} (h : has a k = false) : btTo a (k + 1) = btTo a k := by
  unfold btTo
  rw [List.range_succ, List.filter_append, List.filter_cons, if_neg (by simp [h])]; simp
theorem btTo_zero (a : List Nat) : btTo a 0 = [] := rfl
theorem btTo_all (a : List Nat) : btTo a 256 = bts a := rfl
theorem byte_val {k : Nat} (h : k < 256) : Value.int .u8 (k : Int) = B (UInt8.ofNat k) := by
  unfold B
  have : (UInt8.ofNat k).toNat = k := by simp; omega
  rw [this]
theorem made0 (n : Nat) (hn : n ≤ 1000000) (u : World) : (Instr.makeSlice 141 (.int .i64 0) (.int .i64 (n : Int))).run Try.prog u = .ok (.slice (some ⟨u.heap.size, 0, none⟩) 0 n) (u.alloc (.cells (madeCells #[.int .u8 0] n) 5)) := by
  obtain ⟨i0, hi, hz0, hz1, hz2⟩ := info_parts infoU
  have h := run_make (P := Try.prog) u 141 5 i0 (.int .u8 0) Try.underlying141 hi hz0 .i64 .i64 0 (n : Int) (by omega) (by omega) (by rw [hz2]; omega) (by omega)
  rw [hz1] at h
  simpa [Value.cells] using h

/-- A row of bytes of the call's own. -/
def ob (base : Nat) (w : World) (v : Value) (l : List UInt8) : Prop := w.ownsRow base 5 1 v l.length (Bs l)
section
variable {w w' : World} {base : Nat} {v : Value} {l : List UInt8}
theorem ob_nil (w : World) (base : Nat) : ob base w (.slice none 0 0) [] := World.ownsRow_nil _ _ _ _
theorem ob.below (h : ob base w v l) (k : Below w.heap.size w w') : ob base w' v l := own_only (S := fun _ => False) h (Only.of_below k) (fun _ _ e => e)
theorem ob_made {n : Nat} (hn : n ≤ 1000000) (hb : base ≤ w.heap.size) : ob base (w.alloc (.cells (madeCells #[.int .u8 0] n) 5)) (.slice (some ⟨w.heap.size, 0, none⟩) 0 n) [] :=
  ⟨rfl, .inr ⟨w.heap.size, n, _, rfl, hb, heap_alloc_new w _, Nat.zero_le _, by unfold maxLen; omega, by rw [size_madeCells]; omega, rfl⟩⟩
theorem ob_lit {c : List UInt8} (hc : c.length ≤ 1000000) (hb : base ≤ w.heap.size) : ob base (w.alloc (.cells (Bs c).toArray 5)) (.slice (some ⟨w.heap.size, 0, none⟩) c.length c.length) c :=
  World.ownsRow_lit w (Bs c).toArray c.length hb (by unfold maxLen; omega) (by simp [Bs])
theorem ob_string (h : ob base w v l) : (convert 141 9 v).run Try.prog w = .ok (.string ⟨l.toArray⟩) w :=
  own_string (P := Try.prog) (dst := 9) Try.underlying141 Try.underlying5 Try.underlying9 h
theorem Blk_low {B g : Nat} {t : TypeId} {cs : Array Value} (h : Blk w g t cs) (k : Below B w w') (hg : g < B) : Blk w' g t cs := (k.block g hg).trans h
theorem Bs_one (l : List UInt8) : ∀ u ∈ Bs l, u.oneCell' = true := fun u hu => by
  obtain ⟨b, _, rfl⟩ := List.mem_map.1 hu
  rfl
theorem Bs_append (l c : List UInt8) : Bs l ++ Bs c = Bs (l ++ c) := by simp [Bs]
end
/-- 'append(v, b1, b2, ..)'. -/
theorem wpList_ob {ops : Array Oper} {rest : List Oper} {o : Oper} {a : Act} {Q : Exit → Act → World → Prop} (hgd : o.guard = none) (s x : Operand)
    (ho : o.op = .call { callee := .builtin .append, args := #[s, x], argTypes := #[141, 141] }) {base : Nat} {W w : World} (HB : Below base W w) (hbW : base ≤ W.heap.size)
    {v : Value} {l : List UInt8} (hs : a.eval s = v) (hown : ob base w v l) {cs : Array Value} (c : List UInt8) (hcs : cs = (Bs c).toArray) {m k : Nat} (hm : m = c.length) (hx : a.eval x = .slice (some ⟨w.heap.size, 0, none⟩) m k)
    (hlen : l.length + c.length ≤ 1000000000)
    (h : ∀ v' w', ob base w' v' (l ++ c) → Below base W w' → wpList Try.prog ops Q rest (a.put o.dst v') w') : wpList Try.prog ops Q (o :: rest) a (w.alloc (.cells cs 5)) := by
  obtain ⟨i0, hi, hz0, hz1, hz2⟩ := info_parts infoU
  have hsz := HB.size
  refine wpList_append_own _ hgd s x 141 ho base 5 i0 (.int .u8 0) 1 1 Try.underlying141 hi hz0 hz1 hz2 rfl (by decide) v l.length (Bs l) hs (World.ownsRow.alloc hown _) ⟨w.heap.size, 0, none⟩ m k (Bs c) hx (by rw [Bs_length, hm, Nat.mul_one]) (fun j u hj => ?_) (Bs_one c) (by unfold maxLen; omega) (by omega) (by rw [size_alloc]; omega) (fun v' w' h2 h3 _ => h v' w' ?_ ?_)
  · rw [show ((⟨w.heap.size, 0, none⟩ : Addr).add j) = ⟨w.heap.size, j, none⟩ by unfold Addr.add; split <;> simp_all, (Blk.fresh w _ _).cell, hcs]
    simpa using hj
  · have : w'.ownsRow base 5 1 v' (l ++ c).length (Bs (l ++ c)) := by
      rw [List.length_append, ← Bs_append, ← hm]; exact h2
    exact this
  · exact (HB.alloc (by omega) _).grown h3 (by simp; omega) (fun k hk => (World.ownsRow.lt hown k hk).1)

end Go.Proofs.Ythjelilmlbbalaa.Td
namespace Go.Proofs.Ythjelilmlbbalaa.Te
open Go.RowKit Go.Proofs.Ythjelilmlbbalaa.Vm Go.Proofs.Ythjelilmlbbalaa.Vo Go.Proofs.Ythjelilmlbbalaa.Bw Go.Proofs.Ythjelilmlbbalaa.Na Go.Proofs.Ythjelilmlbbalaa.Tm Go.Proofs.Ythjelilmlbbalaa.Ta Go.Proofs.Ythjelilmlbbalaa.Tb Go.Proofs.Ythjelilmlbbalaa.Tc Go.Proofs.Ythjelilmlbbalaa.Td

set_option maxRecDepth 100000 in
theorem rHas_any {c : Nat} {a : List Nat} (ha : isSet a) (hc : c < 256) (w : World) :
    Calls Try.prog 41 #[.agg (sv a), .int .u8 c] w fun e w' => e = .returned (.bool (has a c)) ∧ Below w.heap.size w w' := by
  obtain ⟨q, hq⟩ : ∃ q, q = c / 64 := ⟨_, rfl⟩
  obtain ⟨r, hr⟩ : ∃ r, r = c % 64 := ⟨_, rfl⟩
  have hq4 : q < 4 := by omega
  have hr64 : r < 64 := by omega
  obtain ⟨x, hx⟩ : ∃ x, x = a.getD q 0 := ⟨_, rfl⟩
  have hcell : (w.alloc (.cells (sv a) 64)).cell? ⟨w.heap.size, q, none⟩ = some (.int .u64 x) := by rw [(Blk.fresh w _ _).cell, sv_get (by rw [get_of ha hq4, ← hx])]
  have h1 : (c : Int) / 64 = q := by omega
  have h2 : (c : Int) % 64 = r := by omega
  have HH : Hid (has a c = x.testBit r) := Lib.hid (by rw [hx, hq, hr]; rfl)
  obtain ⟨y, hy, HY⟩ : ∃ y : Nat, (x : Int) / 2 ^ r = (y : Int) ∧ Hid (y = x / 2 ^ r) := ⟨x / 2 ^ r, by simp, Lib.hid rfl⟩
  clear hq hr hx
  go_enter Try.func41, Try.ntmps41
  go_wp2
  go_ret
  refine ⟨ret_bool ?_, below_alloc _ _⟩
  rw [HH.out, Nat.testBit_eq_decide_div_mod_eq, ← HY.out]
  have hb : ∀ z : Int, (z == 1) = decide (z = 1) := fun z => by rw [Bool.eq_iff_iff]; simp
  rw [hb]
  exact decide_eq_decide.2 (by omega)

set_option maxRecDepth 100000 in
theorem rwith_any {c : Nat} {a : List Nat} (ha : isSet a) (hc : c < 256) (w : World) :
    Calls Try.prog 110 #[.agg (sv a), .int .u8 c] w fun e w' => e = .returned (.agg (sv (wth a c))) ∧ Below w.heap.size w w' := by
  obtain ⟨hz, hsz⟩ := zero_of_info infoS
  rw [sv_zero] at hz
  obtain ⟨q, hq⟩ : ∃ q, q = c / 64 := ⟨_, rfl⟩
  obtain ⟨r, hr⟩ : ∃ r, r = c % 64 := ⟨_, rfl⟩
  have hq4 : q < 4 := by omega
  have hr64 : r < 64 := by omega
  obtain ⟨x, hx⟩ : ∃ x, x = a.getD q 0 := ⟨_, rfl⟩
  obtain ⟨k1, k2, k3⟩ := two_start w 64 (sv a) (sv zero)
  obtain ⟨W, hW⟩ : ∃ W, W = (w.alloc (.cells (sv a) 64)).alloc (.cells (sv zero) 64) := ⟨_, rfl⟩
  rw [← hW] at k1 k2 k3
  have hcell : ((w.alloc (.cells (sv a) 64)).alloc (.cells (sv zero) 64)).cell? ⟨w.heap.size, q, none⟩ = some (.int .u64 x) := by rw [← hW, k1.cell, sv_get (by rw [get_of ha hq4, ← hx])]
  have hfr : ((w.alloc (.cells (sv a) 64)).alloc (.cells (sv zero) 64)).frozen? ⟨w.heap.size, q, none⟩ = false := by rw [← hW]; exact k1.frozen q
  have h1 : (c : Int) / 64 = q := by omega
  have h2 : (c : Int) % 64 = r := by omega
  have hxl : x < 18446744073709551616 := by rw [hx]; exact word_lt ha q
  obtain ⟨y, hy, HY⟩ : ∃ y : Nat, bits .or .u64 (x : Int) (IntKind.u64.wrap (2 ^ r)) = (y : Int) ∧ Hid (y = x ||| 2 ^ r) := ⟨_, or_pow hxl hr64, Lib.hid rfl⟩
  obtain ⟨z, hzz⟩ : ∃ z, z = sv (wth a c) := ⟨_, rfl⟩
  have HZ := Lib.hid hzz
  have H4 : Hid (z.size = 4) := Lib.hid (by rw [hzz, sv4 (wth_set ha c)])
  have H1 : Hid (z.all (·.oneCell') = true) := Lib.hid (by rw [hzz]; exact sv_one _)
  have hset : (sv a).setIfInBounds q (.int .u64 (y : Int)) = z := by rw [sv_set, hzz, show wth a c = a.set q y by rw [HY.out, hx, hq, hr]; rfl]
  have k := two_start w 64 z (sv zero)
  have HT := Lib.hid k.1
  have HR := Lib.hid k.2.1
  have HB := Lib.hid k.2.2
  rw [← hzz]
  clear hq hr hx hW k1 k2 k3 hzz hsz k
  go_enter Try.func110, Try.ntmps110
  go_wp2_with (first | refine wpList_load_row rfl 64 _ rfl w.heap.size rfl _ _ _ _ HT.out Try.underlying64 rfl (fit H4.out) ?_ | refine wpList_store_row rfl 64 _ _ rfl (w.heap.size + 1) z rfl rfl _ _ HR.out (fit H4.out) (Eq.trans (sv4 zero_set) (Eq.symm H4.out)) H1.out ?_)
  refine bodyPost_ret (v := .agg z) (results_cell_row rfl _ _ (w.heap.size + 1) 64 _ _ _ rfl (setRow_heap _ _ _ _ _ _ HR.out) Try.underlying64 rfl (fit H4.out)) rfl ?_
  exact ⟨rfl, Below_setRow HB.out (by omega) _⟩

theorem Blk_row {w : World} {g : Nat} {t : TypeId} {cs cs' : Array Value} (h : Blk w g t cs) : Blk (w.setRow g cs') g t cs' := setRow_heap _ _ _ _ _ _ h
theorem Blk_other {w : World} {g k : Nat} {t : TypeId} {cs cs' : Array Value} (h : Blk w k t cs) (hk : k ≠ g) : Blk (w.setRow g cs') k t cs := (setRow_other w g k cs' hk).trans h

set_option maxRecDepth 100000 in
theorem rRange_any {x y : Nat} (hx : x < 256) (hy : y < 256) (w : World) :
    Calls Try.prog 108 #[.int .u8 x, .int .u8 y] w fun e w' => e = .returned (.agg (sv (frm x (y + 1)))) ∧ Below w.heap.size w w' := by
  obtain ⟨hz, hsz⟩ := zero_of_info infoS
  rw [sv_zero] at hz
  go_enter Try.func108, Try.ntmps108
  go_wp2
  clear hz hsz
  go_loopw [6] (fun i wr => ∃ k : Nat, i = .int .i64 k ∧ (k = x ∨ k ≤ y + 1) ∧ x ≤ k ∧ Hid (Blk wr w.heap.size 64 (sv zero)) ∧ Hid (Blk wr (w.heap.size + 1) 64 (sv (frm x k))) ∧ Hid (Below w.heap.size w wr))
    (fun i _ => 256 - (intOf i).toNat)
  case atStart =>
    obtain ⟨h1, h2, h3⟩ := two_start w 64 (sv zero) (sv zero)
    exact ⟨x, rfl, .inl rfl, Nat.le_refl _, Lib.hid h1, Lib.hid (by rw [frm_zero]; exact h2), Lib.hid h3⟩
  case round =>
    obtain ⟨k, rfl, hk, hxk, HR, HT, HB⟩ := hrel
    by_cases h8 : k ≤ y
    · have h256 : k < 256 := by omega
      have H4 : Hid ((sv (frm x k)).size = 4) := Lib.hid (sv4 (frm_set _ _))
      have HV : Hid (∀ u, Calls Try.prog 110 #[.agg (sv (frm x k)), .int .u8 k] u fun e w' => e = .returned (.agg (sv (frm x (k + 1)))) ∧ Below u.heap.size u w') := Lib.hid (fun u => by rw [frm_step hxk]; exact rwith_any (frm_set _ _) h256 u)
      have H5 : Hid ((sv (frm x (k + 1))).size = 4) := Lib.hid (sv4 (frm_set _ _))
      have H6 : Hid ((sv (frm x (k + 1))).all (·.oneCell') = true) := Lib.hid (sv_one _)
      obtain ⟨z1, hz1⟩ : ∃ z, z = sv (frm x (k + 1)) := ⟨_, rfl⟩
      rw [← hz1] at HV H5 H6
      have HZ1 := Lib.hid hz1
      generalize sv (frm x k) = z at *
      clear hz1
      go_wp2_with (first | refine wpList_load_row rfl 64 _ rfl (w.heap.size + 1) rfl _ _ _ _ HT.out Try.underlying64 rfl (fit H4.out) ?_ | (go_at_call 110; refine (HV.out _).mono ?_; rintro e w1 ⟨rfl, b1⟩; have B1 := Lib.hid b1; clear b1) | refine wpList_store_row rfl 64 _ _ rfl (w.heap.size + 1) z1 rfl rfl _ _ (HT.out.below B1.out) (fit H5.out) (Eq.trans H4.out (Eq.symm H5.out)) H6.out ?_)
      go_roundw
      case rel =>
        have hsz := HB.out.size
        refine ⟨k + 1, by go_num, by omega, by omega, Lib.hid (Blk_other (HR.out.below B1.out) (by omega)), Lib.hid ?_, Lib.hid (Below_setRow (HB.out.trans (B1.out.mono hsz)) (by omega) _)⟩
        rw [← HZ1.out]; exact Blk_row (HT.out.below B1.out)
      case measure => simp [intOf]; omega
    · have hlt : ¬ ((k : Int) ≤ (y : Int)) := by omega
      obtain ⟨z, hz⟩ : ∃ z, z = sv (frm x (y + 1)) := ⟨_, rfl⟩
      have HZ := Lib.hid hz
      have HT' : Hid (Blk wr (w.heap.size + 1) 64 z) := Lib.hid (by
        have := HT.out
        rw [HZ.out]
        by_cases hxy : x ≤ y
        · rw [show k = y + 1 by omega] at this; exact this
        · rw [show k = x by omega, frm_zero] at this
          rw [frm_low (by omega)]; exact this)
      have H4 : Hid (z.size = 4) := Lib.hid (by rw [HZ.out, sv4 (frm_set _ _)])
      have H1 : Hid (z.all (·.oneCell') = true) := Lib.hid (by rw [HZ.out]; exact sv_one _)
      clear hz hk h8
      go_wp2_with (first | refine wpList_load_row rfl 64 _ rfl (w.heap.size + 1) rfl _ _ _ _ HT'.out Try.underlying64 rfl (fit H4.out) ?_ | refine wpList_store_row rfl 64 _ _ rfl w.heap.size z rfl rfl _ _ HR.out (fit H4.out) (Eq.trans (sv4 zero_set) (Eq.symm H4.out)) H1.out ?_)
      refine bodyPost_ret (v := .agg z) (results_cell_row rfl _ _ w.heap.size 64 _ _ _ rfl (setRow_heap _ _ _ _ _ _ HR.out) Try.underlying64 rfl (fit H4.out)) rfl ?_
      exact ⟨by rw [HZ.out], Below_setRow HB.out (Nat.le_refl _) _⟩

set_option maxRecDepth 100000 in
theorem rBytes_any {a : List Nat} (ha : isSet a) (w : World) :
    Calls Try.prog 107 #[.agg (sv a)] w fun e w' => e = .returned (.string ⟨(bts a).toArray⟩) ∧ Below w.heap.size w w' := by
  obtain ⟨W, hW⟩ : ∃ W, W = w.alloc (.cells (sv a) 64) := ⟨_, rfl⟩
  have HX : Hid (Blk W w.heap.size 64 (sv a)) := Lib.hid (by rw [hW]; exact Blk.fresh w _ _)
  have HS : Hid (W.heap.size = w.heap.size + 1) := Lib.hid (by rw [hW]; exact size_alloc _ _)
  have HWB : Hid (Below w.heap.size w W) := Lib.hid (by rw [hW]; exact below_alloc _ _)
  have HW := Lib.hid hW
  clear hW
  obtain ⟨S, hS⟩ : ∃ S, S = bts a := ⟨_, rfl⟩
  have HSS := Lib.hid hS
  rw [← hS]
  clear hS
  go_enter Try.func107, Try.ntmps107
  go_wp2
  go_loopw [4, 3] (fun i v wr => ∃ k : Nat, i = .int .i64 k ∧ k ≤ 256 ∧ Hid (ob (w.heap.size + 1) wr v (btTo a k)) ∧ Hid (Below (w.heap.size + 1) W wr))
    (fun i _ _ => 256 - (intOf i).toNat)
  case atStart =>
    have hW := HW.out
    have hbl := Below.refl (w.heap.size + 1) W
    subst hW
    exact ⟨0, rfl, by omega, Lib.hid (ob_nil _ _), Lib.hid hbl⟩
  case round =>
    obtain ⟨k, rfl, hk, HO, HB⟩ := hrel
    by_cases h8 : k < 256
    · have HT : Hid (Blk wr w.heap.size 64 (sv a)) := Lib.hid (Blk_low HX.out HB.out (by omega))
      have H4 : Hid ((sv a).size = 4) := Lib.hid (sv4 ha)
      have HA : Hid (∀ w, Calls Try.prog 41 #[.agg (sv a), .int .u8 k] w fun e w' => e = .returned (.bool (has a k)) ∧ Below w.heap.size w w') := Lib.hid (fun w => rHas_any ha h8 w)
      have HL := Lib.hid (btTo_len a k)
      obtain ⟨L1, hL1⟩ : ∃ L1, L1 = btTo a (k + 1) := ⟨_, rfl⟩
      have HL1 := Lib.hid hL1
      have HY : Hid (has a k = true → L1 = btTo a k ++ [UInt8.ofNat k]) := Lib.hid (by rw [hL1]; exact btTo_yes)
      have HN : Hid (has a k = false → L1 = btTo a k) := Lib.hid (by rw [hL1]; exact btTo_no)
      clear hL1
      generalize has a k = t at *
      generalize sv a = z at *
      generalize btTo a k = L at *
      have hsz : w.heap.size + 1 ≤ wr.heap.size := by rw [← HS.out]; exact HB.out.size
      cases ht : t
      · rw [ht] at HA
        have HE := Lib.hid (HN.out ht)
        clear HY HN ht hsz
        go_wp2_with (first | refine wpList_load_row rfl 64 _ rfl w.heap.size rfl _ _ _ _ HT.out Try.underlying64 rfl (fit H4.out) ?_ | (go_at_call 41; refine (HA.out _).mono ?_; rintro e w' ⟨rfl, b1⟩; have B1 := Lib.hid b1; clear b1))
        go_roundw
        case rel =>
          have hsz : w.heap.size + 1 ≤ wr.heap.size := by rw [← HS.out]; exact HB.out.size
          exact ⟨k + 1, by go_num, by omega, Lib.hid (by rw [← HL1.out, HE.out]; exact HO.out.below B1.out), Lib.hid (HB.out.trans (B1.out.mono hsz))⟩
        case measure => simp [intOf]; omega
      · rw [ht] at HA
        have HE := Lib.hid (HY.out ht)
        have HC : Hid (#[Value.int .u8 (k : Int)] = (Bs [UInt8.ofNat k]).toArray) := Lib.hid (by rw [byte_val h8]; rfl)
        have HZ := Lib.hid hsz
        have HG : Hid (w.heap.size + 1 ≤ W.heap.size) := Lib.hid (by rw [HS.out]; exact Nat.le_refl _)
        have HLL : Hid (L.length + [UInt8.ofNat k].length ≤ 1000000000) := Lib.hid (by have := HL.out; simp; omega)
        clear HY HN ht hsz
        go_wp2_with (first | refine wpList_load_row rfl 64 _ rfl w.heap.size rfl _ _ _ _ HT.out Try.underlying64 rfl (fit H4.out) ?_ | (go_at_call 41; refine (HA.out _).mono ?_; rintro e w' ⟨rfl, b1⟩; have B1 := Lib.hid b1; clear b1) | (at_builtin; refine wpList_ob rfl _ _ rfl (HB.out.trans (B1.out.mono HZ.out)) HG.out (by rfl) (HO.out.below B1.out) [UInt8.ofNat k] HC.out rfl (by rfl) HLL.out ?_; intro v2 w2 h2 b2; have H2 := Lib.hid h2; have B2 := Lib.hid b2; clear h2 b2))
        go_roundw
        case rel => exact ⟨k + 1, by go_num, by omega, Lib.hid (by rw [← HL1.out, HE.out]; exact H2.out), B2⟩
        case measure => simp [intOf]; omega
    · have hlt : ¬ ((k : Int) < 256) := by omega
      have HK := Lib.hid (show k = 256 by omega)
      have hcv := ob_string HO.out
      clear hk h8
      go_wp2
      go_ret
      exact ⟨ret_str (by rw [HK.out, btTo_all, HSS.out]), HWB.out.trans (HB.out.mono (by omega))⟩

theorem upto_yes {p : Nat → Bool} {n : Nat} (h : p n = true) : upto p (n + 1) = wth (upto p n) n := if_pos h
theorem upto_no {p : Nat → Bool} {n : Nat} (h : p n = false) : upto p (n + 1) = upto p n := if_neg (by simp [h])
theorem upto_not {a : List Nat} (ha : isSet a) : upto (fun c => !has a c) 256 = notL a := set_ext (upto_set _ _) (notL_set ha) fun c hc => by
  rw [has_upto _ _ (Nat.le_refl _) c hc, has_not ha hc, decide_eq_true hc, Bool.true_and]
theorem upto_and {a b : List Nat} (ha : isSet a) (hb : isSet b) : upto (fun c => has a c && has b c) 256 = andL a b := set_ext (upto_set _ _) (andL_set ha hb) fun c hc => by
  rw [has_upto _ _ (Nat.le_refl _) c hc, has_and hc, decide_eq_true hc, Bool.true_and]

set_option maxRecDepth 100000 in
theorem rNot_any {a : List Nat} (ha : isSet a) (w : World) :
    Calls Try.prog 100 #[.agg (sv a)] w fun e w' => e = .returned (.agg (sv (notL a))) ∧ Below w.heap.size w w' := by
  obtain ⟨hz, hsz⟩ := zero_of_info infoS
  rw [sv_zero] at hz
  obtain ⟨p, hp⟩ : ∃ p : Nat → Bool, p = fun c => !has a c := ⟨_, rfl⟩
  have HP := Lib.hid hp
  clear hp
  go_enter Try.func100, Try.ntmps100
  go_wp2
  clear hz hsz
  go_loopw [4] (fun i wr => ∃ k : Nat, i = .int .i64 k ∧ k ≤ 256 ∧ Hid (Blk wr w.heap.size 64 (sv a)) ∧ Hid (Blk wr (w.heap.size + 1) 64 (sv zero)) ∧ Hid (Blk wr (w.heap.size + 1 + 1) 64 (sv (upto p k))) ∧ Hid (Below w.heap.size w wr))
    (fun i _ => 256 - (intOf i).toNat)
  case atStart =>
    obtain ⟨h1, h2, h3, h4⟩ := start3 w 64 64 64 (sv a) (sv zero) (sv zero)
    exact ⟨0, rfl, by omega, Lib.hid h1, Lib.hid h2, Lib.hid h3, Lib.hid h4⟩
  case round =>
    obtain ⟨k, rfl, hk, HU, HR, HT, HB⟩ := hrel
    by_cases h8 : k < 256
    · have H0 : Hid ((sv a).size = 4) := Lib.hid (sv4 ha)
      have H4 : Hid ((sv (upto p k)).size = 4) := Lib.hid (sv4 (upto_set _ _))
      have HA : Hid (∀ w, Calls Try.prog 41 #[.agg (sv a), .int .u8 k] w fun e w' => e = .returned (.bool (has a k)) ∧ Below w.heap.size w w') := Lib.hid (fun w => rHas_any ha h8 w)
      have HV : Hid (∀ u, Calls Try.prog 110 #[.agg (sv (upto p k)), .int .u8 k] u fun e w' => e = .returned (.agg (sv (wth (upto p k) k))) ∧ Below u.heap.size u w') := Lib.hid (fun u => rwith_any (upto_set _ _) h8 u)
      have H5 : Hid ((sv (wth (upto p k) k)).size = 4) := Lib.hid (sv4 (wth_set (upto_set _ _) _))
      have H6 : Hid ((sv (wth (upto p k) k)).all (·.oneCell') = true) := Lib.hid (sv_one _)
      have HY : Hid (has a k = false → upto p (k + 1) = wth (upto p k) k) := Lib.hid (fun h => upto_yes (by rw [HP.out]; simp [h]))
      have HN : Hid (has a k = true → upto p (k + 1) = upto p k) := Lib.hid (fun h => upto_no (by rw [HP.out]; simp [h]))
      have hsz := HB.out.size
      have HZS := Lib.hid hsz
      cases ht : has a k
      · have HE := Lib.hid (HY.out ht)
        rw [ht] at HA
        obtain ⟨z1, hz1⟩ : ∃ z, z = sv (wth (upto p k) k) := ⟨_, rfl⟩
        rw [← hz1] at HV H5 H6
        have HZ1 := Lib.hid hz1
        clear hz1 HY HN ht hsz
        generalize sv a = y at *
        obtain ⟨z, hz⟩ : ∃ z, z = sv (upto p k) := ⟨_, rfl⟩
        rw [← hz] at HT H4 HV
        clear hz
        go_wp2_with (first | refine wpList_load_row rfl 64 _ rfl w.heap.size rfl _ _ _ _ HU.out Try.underlying64 rfl (fit H0.out) ?_ | (go_at_call 41; refine (HA.out _).mono ?_; rintro e w1 ⟨rfl, b1⟩; have B1 := Lib.hid b1; clear b1) | refine wpList_load_row rfl 64 _ rfl (w.heap.size + 1 + 1) rfl _ _ _ _ (HT.out.below B1.out) Try.underlying64 rfl (fit H4.out) ?_ | (go_at_call 110; refine (HV.out _).mono ?_; rintro e w2 ⟨rfl, b2⟩; have B2 := Lib.hid b2; clear b2) | refine wpList_store_row rfl 64 _ _ rfl (w.heap.size + 1 + 1) z1 rfl rfl _ _ ((HT.out.below B1.out).below B2.out) (fit H5.out) (Eq.trans H4.out (Eq.symm H5.out)) H6.out ?_)
        go_roundw
        case rel =>
          refine ⟨k + 1, by go_num, by omega, Lib.hid (Blk_other ((HU.out.below B1.out).below B2.out) (by omega)), Lib.hid (Blk_other ((HR.out.below B1.out).below B2.out) (by omega)), Lib.hid ?_, Lib.hid (Below_setRow (HB.out.trans ((grows B1.out B2.out).mono HZS.out)) (by omega) _)⟩
          rw [HE.out, ← HZ1.out]; exact Blk_row ((HT.out.below B1.out).below B2.out)
        case measure => simp [intOf]; omega
      · have HE := Lib.hid (HN.out ht)
        rw [ht] at HA
        clear HY HN ht hsz
        generalize sv a = y at *
        go_wp2_with (first | refine wpList_load_row rfl 64 _ rfl w.heap.size rfl _ _ _ _ HU.out Try.underlying64 rfl (fit H0.out) ?_ | (go_at_call 41; refine (HA.out _).mono ?_; rintro e w1 ⟨rfl, b1⟩; have B1 := Lib.hid b1; clear b1))
        go_roundw
        case rel =>
          refine ⟨k + 1, by go_num, by omega, Lib.hid (HU.out.below B1.out), Lib.hid (HR.out.below B1.out), Lib.hid ?_, Lib.hid (HB.out.trans (B1.out.mono HZS.out))⟩
          rw [HE.out]; exact HT.out.below B1.out
        case measure => simp [intOf]; omega
    · have hlt : ¬ ((k : Int) < 256) := by omega
      obtain ⟨z, hz⟩ : ∃ z, z = sv (notL a) := ⟨_, rfl⟩
      have HZ := Lib.hid hz
      have HT' : Hid (Blk wr (w.heap.size + 1 + 1) 64 z) := Lib.hid (by
        have := HT.out
        rw [show k = 256 by omega, HP.out, upto_not ha] at this
        rw [HZ.out]; exact this)
      have H4 : Hid (z.size = 4) := Lib.hid (by rw [HZ.out, sv4 (notL_set ha)])
      have H1 : Hid (z.all (·.oneCell') = true) := Lib.hid (by rw [HZ.out]; exact sv_one _)
      clear hz hk h8
      go_wp2_with (first | refine wpList_load_row rfl 64 _ rfl (w.heap.size + 1 + 1) rfl _ _ _ _ HT'.out Try.underlying64 rfl (fit H4.out) ?_ | refine wpList_store_row rfl 64 _ _ rfl (w.heap.size + 1) z rfl rfl _ _ HR.out (fit H4.out) (Eq.trans (sv4 zero_set) (Eq.symm H4.out)) H1.out ?_)
      refine bodyPost_ret (v := .agg z) (results_cell_row rfl _ _ (w.heap.size + 1) 64 _ _ _ rfl (setRow_heap _ _ _ _ _ _ HR.out) Try.underlying64 rfl (fit H4.out)) rfl ?_
      exact ⟨by rw [HZ.out], Below_setRow HB.out (by omega) _⟩
end Go.Proofs.Ythjelilmlbbalaa.Te
