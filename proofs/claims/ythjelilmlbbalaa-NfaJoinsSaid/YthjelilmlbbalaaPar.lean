/-
  An automaton that is being made: the program's join and free (layer 17).
  Plans (layer 17): closures over an automaton that is being made; the plan of one edge.
  The plan of one edge (layer 17).
  Rows of plans (layer 17); the plan of a chain.
  The plan of a chain, called (layer 17).
  The plan of a choice, called (layer 17).
  The plan of a repeat, called (layer 17).
  The program's bounds and size (layer 17).
  The program's size of a tree (layer 17).
  Plans made of trees (layer 17): the functions that make them, and what they are.
  The functions that hand out plans (layer 17).
  Plans made of nodes (layer 17): the program's planned.
  Conditions: as each theorem says.
-/
import Derived.Test.YthjelilmlbbalaaPap
import Derived.Deep.AppendLies
import Derived.Deep.RegionLaw
import Derived.Shelf.Abstract
import Derived.Test.YthjelilmlbbalaaPan
import Derived.BigRegion
namespace Go.Proofs.Ythjelilmlbbalaa.Dc
open Go.RowKit Go.Proofs.Ythjelilmlbbalaa.Vm Go.Proofs.Ythjelilmlbbalaa.Vo Go.Proofs.Ythjelilmlbbalaa.Bw Go.Proofs.Ythjelilmlbbalaa.Na Go.Proofs.Ythjelilmlbbalaa.Ko Go.Proofs.Ythjelilmlbbalaa.Tm Go.Proofs.Ythjelilmlbbalaa.Ta Go.Proofs.Ythjelilmlbbalaa.Tb Go.Proofs.Ythjelilmlbbalaa.Tf Go.Proofs.Ythjelilmlbbalaa.Rm Go.Proofs.Ythjelilmlbbalaa.Ra Go.Proofs.Ythjelilmlbbalaa.Ed Go.Proofs.Ythjelilmlbbalaa.An Go.Proofs.Ythjelilmlbbalaa.Aa Go.Proofs.Ythjelilmlbbalaa.Ar Go.Proofs.Ythjelilmlbbalaa.Da Go.Proofs.Ythjelilmlbbalaa.Db Go.Proofs.Ythjelilmlbbalaa.Dm Go.Proofs.Ythjelilmlbbalaa.De

theorem le_sm {E : List (List Eg)} {l : List Eg} (h : l ∈ E) : l.length ≤ sm E := by
  unfold sm
  induction E with
  | nil => cases h
  | cons x E ih =>
    rw [List.map_cons, List.sum_cons]
    rcases List.mem_cons.1 h with rfl | h
    · omega
    · have := ih h; omega
/-- What an edge more leaves. -/
theorem fa_join {w w2 w3 : World} {g q a b c c2 gg n1 cp1 : Nat} {A : Option Addr} {S : Nat → Prop} {E : List (List Eg)} {F : Int} {R : List Int} {vR : Value} {rv : List Value} {l : List Eg} {f : Bool} {s : List Nat} (h : fa w g S E F R (.slice (some ⟨q, 0, none⟩) n1 cp1) vR rv)
    (ha : E[a]? = some l) (hv : rv[a]? = some (.slice A l.length c)) (hs : isSet s) (hb : in64 (b : Int))
    (h2 : w2.ownsRow 0 66 6 (.slice (some ⟨gg, 0, none⟩) (l.length + 1) c2) (l.length + 1) (Ec l ++ cE ⟨(b : Int), f, s⟩)) (o2 : Only (fun i => (Value.slice A l.length c).ownBlock = some i) w w2) (hgg : (Value.slice A l.length c).ownBlock = some gg ∨ w.heap.size ≤ gg)
    (e3 : w3 = w2.setCell ⟨q, a, none⟩ (.slice (some ⟨gg, 0, none⟩) (l.length + 1) c2)) :
    ∃ S', fA w3 g S' (jn E a b f s) F R ∧ goes S S' w w3 := by
  have hlt := (List.getElem?_eq_some_iff.1 ha).1
  have hrow := h.rows a _ l hv ha
  have o3 : Only (fun i => i = q) w2 w3 := by rw [e3]; exact (Only.refl (fun i => i = q) w2).store (p := ⟨q, a, none⟩) (.inl rfl) _
  have hqe : (Value.slice (some ⟨q, 0, none⟩) n1 cp1).ownBlock = some q := rfl
  obtain ⟨cur, hbE⟩ : ∃ cur, Blk w q 61 cur := by
    rcases h.e.2 with ⟨e0, _⟩ | ⟨g', _, cur, e0, _, hh, _⟩
    · cases e0
    · injection e0 with e0 _ _
      injection e0 with e0
      injection e0 with e0 _ _
      subst e0
      exact ⟨cur, hh⟩
  have hqg : q ≠ g := own_apart h.e h.b (by decide) q rfl
  have b2 : Blk w2 g 28 _ := h.b.only o2 (fun e => own_apart hrow h.b (by decide) g e rfl)
  have b3 := b2.only o3 (fun e => hqg e.symm)
  have e2 : vs w2 0 61 _ rv := own_off h.e hrow (by decide) o2
  have bE2 : Blk w2 q 61 cur := hbE.only o2 (fun e => own_apart hrow hbE (by decide) q e rfl)
  have n1e : n1 = rv.length := by
    obtain ⟨A', c', e, _⟩ := h.e.le
    injection e
  have e3' : vs w3 0 61 (.slice (some ⟨q, 0, none⟩) n1 cp1) (rv.set a (.slice (some ⟨gg, 0, none⟩) (l.length + 1) c2)) := by
    have k : w2.ownsRow 0 61 1 (.slice (some ⟨q, 0, none⟩) n1 cp1) n1 rv := by rw [n1e]; unfold vs at e2; rw [n1e] at e2; exact e2
    have := k.stored a (.slice (some ⟨gg, 0, none⟩) (l.length + 1) c2)
    unfold vs
    rw [List.length_set, e3, ← n1e]
    exact this.1
  have r3 : ints w3 0 3 vR R := own_only (own_off h.r hrow (by decide) o2) o3 (fun i hi e => by
    have k := own_apart (own_off h.r hrow (by decide) o2) bE2 (by decide) i hi
    exact k e)
  have hne : ∀ (v : Value) (m : List Eg), erow w2 v m → ∀ i, v.ownBlock = some i → i ≠ q := fun v m hr => own_apart hr bE2 (by decide)
  have hll : rv.length = E.length := h.len
  refine ⟨fun i => S i ∨ w.heap.size ≤ i, ⟨_, vR, rv.set a (.slice (some ⟨gg, 0, none⟩) (l.length + 1) c2), b3, e3', r3, by rw [List.length_set, jn_len, hll], fun i v m h3 h4 => ?_, fun i j v u p h3 h4 h5 h6 => ?_, fun m hm x hx => ?_, .inl h.sg, fun p hp => .inl (h.se p hp), fun p hp => .inl (h.sr p hp), fun v hv' p hp => ?_, h.F6⟩, ?_, fun i hi => hi⟩
  · unfold jn at h4
    by_cases hia : i = a
    · subst hia
      rw [List.getElem?_set_self (by omega)] at h3
      rw [List.getElem?_set_self hlt, List.getD_eq_getElem?_getD, ha] at h4
      obtain rfl := Option.some.inj h3
      obtain rfl := Option.some.inj h4
      refine own_only ?_ o3 (hne _ (l ++ [⟨(b : Int), f, s⟩]) ?_)
      all_goals
        show w2.ownsRow 0 _ 6 _ (l ++ _).length (Ec (l ++ _))
        rw [List.length_append, Ec_append, Ec_one]
        exact h2
    · rw [List.getElem?_set_ne (fun e => hia e.symm)] at h3 h4
      have hr := h.rows i v m h3 h4
      have k2 : erow w2 v m := own_only hr o2 (fun p hp e => hia (h.dis i a v _ p h3 hv hp e))
      exact own_only k2 o3 (hne v m k2)
  · have hd : ∀ (k : Nat) (u : Value), (rv.set a (.slice (some ⟨gg, 0, none⟩) (l.length + 1) c2))[k]? = some u → u.ownBlock = some p → (k = a ∧ p = gg) ∨ (k ≠ a ∧ rv[k]? = some u) := fun k u hk hu => by
      by_cases hka : k = a
      · subst hka
        rw [List.getElem?_set_self (by omega)] at hk
        obtain rfl := Option.some.inj hk
        exact .inl ⟨rfl, (Option.some.inj hu).symm⟩
      · rw [List.getElem?_set_ne (fun e => hka e.symm)] at hk
        exact .inr ⟨hka, hk⟩
    have hno : ∀ (k : Nat) (u : Value), k ≠ a → rv[k]? = some u → u.ownBlock = some gg → False := fun k u hka hk hu => by
      rcases hgg with e | e
      · exact hka (h.dis k a u _ gg hk hv hu e)
      · obtain ⟨m, hm⟩ : ∃ m, E[k]? = some m := ⟨_, List.getElem?_eq_getElem (by rw [← hll]; exact (List.getElem?_eq_some_iff.1 hk).1)⟩
        have := (World.ownsRow.lt (h.rows k u m hk hm) gg hu).2
        omega
    rcases hd i v h3 h5 with ⟨rfl, rfl⟩ | ⟨k1, k2⟩
    · rcases hd j u h4 h6 with ⟨rfl, _⟩ | ⟨k3, k4⟩
      · rfl
      · exact absurd h6 (fun e => hno j u k3 k4 e)
    · rcases hd j u h4 h6 with ⟨rfl, rfl⟩ | ⟨k3, k4⟩
      · exact absurd h5 (fun e => hno i v k1 k2 e)
      · exact h.dis i j v u p k2 k4 h5 h6
  · unfold jn at hm
    rcases List.mem_or_eq_of_mem_set hm with hm | rfl
    · exact h.ok m hm x hx
    · rw [List.getD_eq_getElem?_getD, ha] at hx
      rcases List.mem_append.1 hx with hx | hx
      · exact h.ok l (List.mem_of_getElem? ha) x hx
      · obtain rfl := List.mem_singleton.1 hx
        exact ⟨hs, hb⟩
  · rcases List.mem_or_eq_of_mem_set hv' with hv' | rfl
    · exact .inl (h.ss v hv' p hp)
    · obtain rfl : p = gg := (Option.some.inj hp).symm
      rcases hgg with e | e
      · exact .inl (h.ss _ (List.mem_of_getElem? hv) p e)
      · exact .inr e
  · exact (o2.mono (fun i hi => h.ss _ (List.mem_of_getElem? hv) i hi)).trans (o3.mono (fun i hi => by rw [hi]; exact h.se q rfl))
/-- .. behind the walk. -/
theorem join_done {w w1 w5 : World} {g q a b c c2 gg N n1 cp1 : Nat} {A : Option Addr} {S : Nat → Prop} {E : List (List Eg)} {F : Int} {R : List Int} {vR : Value} {rv : List Value} {l : List Eg} {f : Bool} {s : List Nat} {o : Obj} (h : fa w1 g S E F R (.slice (some ⟨q, 0, none⟩) n1 cp1) vR rv)
    (k : Below w.heap.size w w1) (ha : E[a]? = some l) (hv : rv[a]? = some (.slice A N c)) (hs : isSet s) (hb : in64 (b : Int)) (hN : N = l.length)
    (h2 : w5.ownsRow 0 66 6 (.slice (some ⟨gg, 0, none⟩) (N + 1) c2) (N + 1) (Ec l ++ cE ⟨(b : Int), f, s⟩)) (hg : ((w1.alloc o).drew).grownBy w5 (Value.slice A N c).ownBlock) (hat : (Value.slice A N c).ownBlock = some gg ∨ gg = w1.heap.size + 1) :
    ∃ S', fA (w5.setCell ⟨q, a, none⟩ (.slice (some ⟨gg, 0, none⟩) (N + 1) c2)) g S' (jn E a b f s) F R ∧ goes S S' w (w5.setCell ⟨q, a, none⟩ (.slice (some ⟨gg, 0, none⟩) (N + 1) c2)) := by
  subst hN
  obtain ⟨S', h3, h4⟩ := fa_join h ha hv hs hb h2 ((((Only.refl _ w1).alloc o).drew).grown hg (fun i hi _ => hi)) (hat.elim .inl (fun e => .inr (by omega))) rfl
  exact ⟨S', h3, (goes.trans ⟨Only.of_below k, fun i hi => .inl hi⟩ h4)⟩
theorem in64_nat {b : Nat} (h : b ≤ 1000000) : in64 (b : Int) := by unfold in64; omega
set_option maxHeartbeats 2000000 in
set_option maxRecDepth 100000 in
theorem join_any {w : World} {g a b : Nat} {S : Nat → Prop} {E : List (List Eg)} {F : Int} {R : List Int} {f : Bool} {x0 x1 x2 x3 : Nat} {z : Int} (ha : a < E.length) (hm : sm E ≤ 100000) (hb : b ≤ 1000000) (hs : isSet [x0, x1, x2, x3]) (H : Hid (fA w g S E F R)) :
    Calls Try.prog 52 #[.pointer (some ⟨g, 0, none⟩), .int .i64 (a : Int), .int .i64 (b : Int), .agg #[.int .i64 z, .bool f, .int .u64 (x0 : Int), .int .u64 (x1 : Int), .int .u64 (x2 : Int), .int .u64 (x3 : Int)]] w fun e w' => e = .returned (.tuple #[]) ∧ ∃ S', fA w' g S' (jn E a b f [x0, x1, x2, x3]) F R ∧ goes S S' w w' := by
  obtain ⟨vE, vR, rv, h⟩ := H.out
  obtain ⟨l, hl⟩ : ∃ l, E[a]? = some l := ⟨_, List.getElem?_eq_getElem ha⟩
  have hll : l.length ≤ 100000 := Nat.le_trans (le_sm (List.mem_of_getElem? hl)) hm
  obtain ⟨A, c, hv, hc, hr⟩ := h.rowget hl
  obtain ⟨A1, c1, rfl, _⟩ := h.e.le
  obtain ⟨q, rfl, hq, hcell⟩ := h.e.cell hv
  have hlen := h.len
  obtain ⟨K, hK⟩ : ∃ K, K = rv.length := ⟨_, rfl⟩
  obtain ⟨N, hN⟩ : ∃ N, N = l.length := ⟨_, rfl⟩
  have haK : a < K := by omega
  have HK := Lib.hid hK
  have HN := Lib.hid hN
  rw [← hK] at h
  rw [← hN] at hcell hv hr hll
  have HH := Lib.hid h
  have HS := Lib.hid hs
  have HL := Lib.hid hl
  have HV := Lib.hid hv
  have HRW := Lib.hid hr
  have HBI := Lib.hid (in64_nat hb)
  obtain ⟨w1, hw1⟩ : ∃ w1, w1 = w.alloc (.cells #[.int .i64 (b : Int), .bool f, .int .u64 (x0 : Int), .int .u64 (x1 : Int), .int .u64 (x2 : Int), .int .u64 (x3 : Int)] 66) := ⟨_, rfl⟩
  have B1 : Hid (Below w.heap.size w w1) := Lib.hid (by rw [hw1]; exact below_alloc _ _)
  have KX : Hid (Blk w1 w.heap.size 66 #[.int .i64 (b : Int), .bool f, .int .u64 (x0 : Int), .int .u64 (x1 : Int), .int .u64 (x2 : Int), .int .u64 (x3 : Int)]) := Lib.hid (by rw [hw1]; exact Blk.fresh _ _ _)
  clear h hs hl hv hr hb hlen hK hN hm ha H
  go_enter Try.func52, Try.ntmps52
  go_upto_region 2 with fail
  rw [← hw1]
  obtain ⟨i0, hi, hz0, hz1, hz2⟩ := info_parts infoE
  have H1 : Hid (fa w1 g S E F R (.slice (some ⟨q, 0, none⟩) K c1) vR rv) := Lib.hid (HH.out.below B1.out)
  have hq1 : q < w1.heap.size := Nat.lt_of_lt_of_le hq B1.out.size
  have hg1 : g < w1.heap.size := H1.out.b.lt
  have d0 : w1.cell? ⟨g, 0, none⟩ = some (.slice (some ⟨q, 0, none⟩) K c1) := H1.out.b.cell 0
  have dq : w1.cell? ⟨q, a, none⟩ = some (.slice A N c) := (B1.out.cell (p := ⟨q, a, none⟩) hq).trans hcell
  have fq : w1.frozen? ⟨q, a, none⟩ = false := by
    have k : w1.ownsRow 0 61 1 (.slice (some ⟨q, 0, none⟩) K c1) rv.length rv := H1.out.e
    rw [← HK.out] at k
    exact k.frozenAt a
  have k0 := KX.out.cell 0
  have k1 := KX.out.cell 1
  have k2 := KX.out.cell 2
  have k3 := KX.out.cell 3
  have k4 := KX.out.cell 4
  have k5 := KX.out.cell 5
  have hO : w1.ownsRow 0 66 6 (.slice A N c) N (Ec l) := by
    have k : erow w1 (.slice A N c) l := own_only HRW.out (Only.of_below (S := fun _ => False) B1.out) (fun _ _ e => e)
    unfold erow at k
    rw [← HN.out] at k
    exact k
  have ag : some g ≠ (Value.slice A N c).ownBlock := fun e => own_apart hO H1.out.b (by decide) g e.symm rfl
  have aq : some q ≠ (Value.slice A N c).ownBlock := fun e => by
    have hb : ∃ cur, Blk w1 q 61 cur := by
      rcases H1.out.e.2 with ⟨e0, _⟩ | ⟨g', _, cur, e0, _, hh, _⟩
      · cases e0
      · injection e0 with e0 _ _
        injection e0 with e0
        injection e0 with e0 _ _
        subst e0
        exact ⟨cur, hh⟩
    obtain ⟨cur, hb⟩ := hb
    exact own_apart hO hb (by decide) q e.symm rfl
  have C3 : Hid (∀ o, ((w1.alloc o).drew).cell? ⟨q, a, none⟩ = some (.slice A N c)) := Lib.hid (fun o => ((below_alloc w1 o).cell (p := ⟨q, a, none⟩) hq1).trans dq)
  have F3 : Hid (∀ o, ((w1.alloc o).drew).frozen? ⟨q, a, none⟩ = false) := Lib.hid (fun o => ((below_alloc w1 o).frozen (p := ⟨q, a, none⟩) hq1).trans fq)
  have C4 : Hid (∀ o, ((w1.alloc o).drew).cell? ⟨g, 0, none⟩ = some (.slice (some ⟨q, 0, none⟩) K c1)) := Lib.hid (fun o => ((below_alloc w1 o).cell (p := ⟨g, 0, none⟩) hg1).trans d0)
  clear hw1 hcell hq
  go_region_law (refine step_append_lies _ (by rfl) _ _ _ (by rfl) 0 66 i0 _ 6 48 Try.underlying61 hi hz0 hz1 hz2 rfl (by omega) (.slice A N c) N (Ec l) (by rfl) ((hO.alloc _).drew) ⟨w1.heap.size, 0, none⟩ 1 1 [.int .i64 (b : Int), .bool f, .int .u64 (x0 : Int), .int .u64 (x1 : Int), .int .u64 (x2 : Int), .int .u64 (x3 : Int)] (by rfl) (by rfl) (World.news_of_block (cs := #[.int .i64 (b : Int), .bool f, .int .u64 (x0 : Int), .int .u64 (x1 : Int), .int .u64 (x2 : Int), .int .u64 (x3 : Int)]) (t := 66) (fr := (0, 0)) (heap_alloc_new _ _)) (by simp [Value.oneCell']) (by omega) (by unfold maxLen; omega) (by omega) (Nat.zero_le _) (w1.heap.size + 1) (by simp) ?_; intro gg c2 w5 hown1 hgrow hat hlt; have fz := (hgrow.frozen_far ⟨q, a, none⟩ (by simp; omega) aq).trans (F3.out _); have cz := (hgrow.cell_far ⟨q, a, none⟩ (by simp; omega) aq).trans (C3.out _); have cy := (hgrow.cell_far ⟨g, 0, none⟩ (by simp; omega) ag).trans (C4.out _))
  all_goals
    go_end0
    exact ⟨rfl, join_done H1.out B1.out HL.out HV.out HS.out HBI.out HN.out hown1 hgrow hat⟩
end Go.Proofs.Ythjelilmlbbalaa.Dc
namespace Go.Proofs.Ythjelilmlbbalaa.Df
open Go.RowKit Go.Proofs.Ythjelilmlbbalaa.Vm Go.Proofs.Ythjelilmlbbalaa.Vo Go.Proofs.Ythjelilmlbbalaa.Bw Go.Proofs.Ythjelilmlbbalaa.Na Go.Proofs.Ythjelilmlbbalaa.Ko Go.Proofs.Ythjelilmlbbalaa.Tm Go.Proofs.Ythjelilmlbbalaa.Ta Go.Proofs.Ythjelilmlbbalaa.Tb Go.Proofs.Ythjelilmlbbalaa.Tf Go.Proofs.Ythjelilmlbbalaa.Rm Go.Proofs.Ythjelilmlbbalaa.Ra Go.Proofs.Ythjelilmlbbalaa.Ed Go.Proofs.Ythjelilmlbbalaa.An Go.Proofs.Ythjelilmlbbalaa.Aa Go.Proofs.Ythjelilmlbbalaa.Ar Go.Proofs.Ythjelilmlbbalaa.Da Go.Proofs.Ythjelilmlbbalaa.Db Go.Proofs.Ythjelilmlbbalaa.Dm Go.Proofs.Ythjelilmlbbalaa.De Go.Proofs.Ythjelilmlbbalaa.Dc

/-- A closure that makes a tree's part: its blocks Z as they stand in w. -/
def crt (w : World) (Z : Nat → Prop) (g : Nat) (t : T) (k : FuncId) (caps : Array Value) : Prop :=
  ∀ (u : World) (S : Nat → Prop) (E : List (List Eg)) (F : Int) (R : List Int), (∀ i, Z i → u.heap[i]? = w.heap[i]?) → (∀ i, Z i → ¬ S i) → fA u g S E F R → R.length = E.length → E.length + szU t ≤ 100000 → sm E + 2 * szU t ≤ 100000 →
    Calls Try.prog k caps u fun e u' => e = .returned (.tuple #[.int .i64 ((bT t E).i : Int), .int .i64 ((bT t E).o : Int)]) ∧ ∃ S', fA u' g S' (bT t E).E F (R ++ List.replicate (szU t) (-1)) ∧ goes S S' u u'
/-- A plan. -/
structure plan (w : World) (g : Nat) (t : T) (v : Value) (Z : Nat → Prop) : Prop where
  c : ∃ k caps, v = .func (.func k) #[] caps ∧ Enters Try.prog k ∧ crt w Z g t k caps
  lt : ∀ i, Z i → i < w.heap.size
theorem plan.same {w w' : World} {g : Nat} {t : T} {v : Value} {Z : Nat → Prop} (h : plan w g t v Z) (hs : w.heap.size ≤ w'.heap.size) (hz : ∀ i, Z i → w'.heap[i]? = w.heap[i]?) : plan w' g t v Z := by
  obtain ⟨k, caps, e, h1, h2⟩ := h.c
  exact ⟨⟨k, caps, e, h1, fun u S E F R hu => h2 u S E F R (fun i hi => (hu i hi).trans (hz i hi))⟩, fun i hi => Nat.lt_of_lt_of_le (h.lt i hi) hs⟩
theorem plan.below {w w' : World} {g : Nat} {t : T} {v : Value} {Z : Nat → Prop} (h : plan w g t v Z) (k : Below w.heap.size w w') : plan w' g t v Z := h.same k.size (fun i hi => k.block i (h.lt i hi))
theorem plan.goes {w w' : World} {g : Nat} {t : T} {v : Value} {Z S S' : Nat → Prop} (h : plan w g t v Z) (k : goes S S' w w') (hz : ∀ i, Z i → ¬ S i) : plan w' g t v Z := h.same k.1.size (fun i hi => k.1.block i (h.lt i hi) (hz i hi))
theorem plan.mono {w : World} {g : Nat} {t : T} {v : Value} {Z Y : Nat → Prop} (h : plan w g t v Z) (hy : ∀ i, Z i → Y i) (hl : ∀ i, Y i → i < w.heap.size) : plan w g t v Y := by
  obtain ⟨k, caps, e, h1, h2⟩ := h.c
  exact ⟨⟨k, caps, e, h1, fun u S E F R hu hn => h2 u S E F R (fun i hi => hu i (hy i hi)) (fun i hi => hn i (hy i hi))⟩, hl⟩
theorem fA.trim {w : World} {g : Nat} {S : Nat → Prop} {E : List (List Eg)} {F : Int} {R : List Int} (h : fA w g S E F R) : fA w g (fun i => S i ∧ i < w.heap.size) E F R := by
  obtain ⟨vE, vR, rv, h⟩ := h
  refine ⟨vE, vR, rv, h.b, h.e, h.r, h.len, h.rows, h.dis, h.ok, ⟨h.sg, h.b.lt⟩, fun q hq => ⟨h.se q hq, (h.e.lo q hq).2⟩, fun q hq => ⟨h.sr q hq, (h.r.lo q hq).2⟩, fun v hv q hq => ⟨h.ss v hv q hq, ?_⟩, h.F6⟩
  obtain ⟨i, hi⟩ := List.mem_iff_getElem?.1 hv
  obtain ⟨m, hm⟩ : ∃ m, E[i]? = some m := ⟨_, List.getElem?_eq_getElem (by rw [← h.len]; exact (List.getElem?_eq_some_iff.1 hi).1)⟩
  exact (World.ownsRow.lt (h.rows i v m hi hm) q hq).2
theorem goes.trim {w w' : World} {S S' T : Nat → Prop} (h : goes S S' w w') (hT : ∀ i, T i → S' i) : goes S T w w' := ⟨h.1, fun i hi => h.2 i (hT i hi)⟩
theorem cell_same {w u : World} {Z : Nat → Prop} (h : ∀ i, Z i → u.heap[i]? = w.heap[i]?) {b j : Nat} (hb : Z b) : u.cell? ⟨b, j, none⟩ = w.cell? ⟨b, j, none⟩ := World.cell?_of_block (h b hb)
set_option maxHeartbeats 1000000 in
set_option maxRecDepth 100000 in
theorem free_any {w : World} {g a b : Nat} {S : Nat → Prop} {E : List (List Eg)} {F : Int} {R : List Int} (ha : a < E.length) (hm : sm E ≤ 100000) (hb : b ≤ 1000000) (H : Hid (fA w g S E F R)) :
    Calls Try.prog 30 #[.pointer (some ⟨g, 0, none⟩), .int .i64 (a : Int), .int .i64 (b : Int)] w fun e w' => e = .returned (.tuple #[]) ∧ ∃ S', fA w' g S' (fr E a b) F R ∧ goes S S' w w' := by
  have HJ : Hid (Calls Try.prog 52 #[.pointer (some ⟨g, 0, none⟩), .int .i64 (a : Int), .int .i64 (b : Int), .agg #[.int .i64 0, .bool true, .int .u64 0, .int .u64 0, .int .u64 0, .int .u64 0]] w fun e w' => e = .returned (.tuple #[]) ∧ ∃ S', fA w' g S' (fr E a b) F R ∧ goes S S' w w') := Lib.hid (join_any (x0 := 0) (x1 := 0) (x2 := 0) (x3 := 0) (f := true) (z := 0) ha hm hb isSet_zero H)
  clear ha hm hb H
  go_enter Try.func30, Try.ntmps30
  go_wp2_with (go_at_call 52; refine HJ.out.mono ?_; rintro e w' ⟨rfl, h⟩)
  go_end0
  exact ⟨rfl, h⟩
end Go.Proofs.Ythjelilmlbbalaa.Df
namespace Go.Proofs.Ythjelilmlbbalaa.Dj
open Go.RowKit Go.Proofs.Ythjelilmlbbalaa.Vm Go.Proofs.Ythjelilmlbbalaa.Vo Go.Proofs.Ythjelilmlbbalaa.Bw Go.Proofs.Ythjelilmlbbalaa.Na Go.Proofs.Ythjelilmlbbalaa.Ko Go.Proofs.Ythjelilmlbbalaa.Tm Go.Proofs.Ythjelilmlbbalaa.Ta Go.Proofs.Ythjelilmlbbalaa.Tb Go.Proofs.Ythjelilmlbbalaa.Tf Go.Proofs.Ythjelilmlbbalaa.Rm Go.Proofs.Ythjelilmlbbalaa.Ra Go.Proofs.Ythjelilmlbbalaa.Ed Go.Proofs.Ythjelilmlbbalaa.An Go.Proofs.Ythjelilmlbbalaa.Aa Go.Proofs.Ythjelilmlbbalaa.Ar Go.Proofs.Ythjelilmlbbalaa.Da Go.Proofs.Ythjelilmlbbalaa.Db Go.Proofs.Ythjelilmlbbalaa.Dm Go.Proofs.Ythjelilmlbbalaa.De Go.Proofs.Ythjelilmlbbalaa.Dc Go.Proofs.Ythjelilmlbbalaa.Df

theorem goes_drew (S : Nat → Prop) (u : World) : goes S S u u.drew := ⟨(Only.refl _ _).drew, fun _ h => .inl h⟩
theorem two_one (E : List (List Eg)) : E ++ [[], []] = (E ++ [[]]) ++ [[]] := by simp
theorem reps {R : List Int} {n m k : Nat} (h : n + m = k) : R ++ List.replicate n (-1) ++ List.replicate m (-1) = R ++ List.replicate k (-1 : Int) := by
  rw [List.append_assoc, List.replicate_append_replicate, h]
set_option maxHeartbeats 1000000 in
set_option maxRecDepth 100000 in
theorem single_any {u : World} {g bn be : Nat} {S : Nat → Prop} {E : List (List Eg)} {F : Int} {R : List Int} {f : Bool} {z : Int} {x0 x1 x2 x3 : Nat} (hs : isSet [x0, x1, x2, x3]) (hl : bn < u.heap.size) (hl2 : be < u.heap.size) (hbn : u.cell? ⟨bn, 0, none⟩ = some (.pointer (some ⟨g, 0, none⟩)))
    (e0 : u.cell? ⟨be, 0, none⟩ = some (.int .i64 z)) (e1 : u.cell? ⟨be, 1, none⟩ = some (.bool f)) (e2 : u.cell? ⟨be, 2, none⟩ = some (.int .u64 (x0 : Int))) (e3 : u.cell? ⟨be, 3, none⟩ = some (.int .u64 (x1 : Int))) (e4 : u.cell? ⟨be, 4, none⟩ = some (.int .u64 (x2 : Int))) (e5 : u.cell? ⟨be, 5, none⟩ = some (.int .u64 (x3 : Int)))
    (hS : ¬ S bn) (hS2 : ¬ S be) (hE : E.length + 2 ≤ 100000) (hR : R.length = E.length) (hm : sm E ≤ 100000) (H : Hid (fA u g S E F R)) :
    Calls Try.prog 63 #[.pointer (some ⟨bn, 0, none⟩), .pointer (some ⟨be, 0, none⟩)] u fun e u' => e = .returned (.tuple #[.int .i64 (E.length : Int), .int .i64 ((E.length + 1 : Nat) : Int)]) ∧ ∃ S', fA u' g S' (jn (E ++ [[], []]) E.length (E.length + 1) f [x0, x1, x2, x3]) F (R ++ List.replicate 2 (-1)) ∧ goes S S' u u' := by
  obtain ⟨K, hK⟩ : ∃ K, K = E.length := ⟨_, rfl⟩
  have HK := Lib.hid hK
  have F0 : Hid (fA u.drew g S E F R) := Lib.hid (H.out.below (below_drew (Below.refl _ _)))
  have G0 : Hid (goes S S u u.drew) := Lib.hid (goes_drew _ _)
  have HA : Hid (Calls Try.prog 28 #[.pointer (some ⟨g, 0, none⟩)] u.drew fun e w' => e = .returned (.int .i64 (K : Int)) ∧ ∃ S', fA w' g S' (E ++ [[]]) F (R ++ [-1]) ∧ goes S S' u.drew w') := Lib.hid (by rw [hK]; exact state_any (by omega) hR F0)
  have HB : Hid (∀ (w : World) (S' : Nat → Prop), fA w g S' (E ++ [[]]) F (R ++ [-1]) → Calls Try.prog 28 #[.pointer (some ⟨g, 0, none⟩)] w fun e w' => e = .returned (.int .i64 ((K : Int) + 1)) ∧ ∃ S'', fA w' g S'' (E ++ [[]] ++ [[]]) F (R ++ [-1] ++ [-1]) ∧ goes S' S'' w w') := Lib.hid (fun w S' h => by
    have k := state_any (E := E ++ [[]]) (by simp; omega) (by simp; omega) (Lib.hid h)
    have e : (((E ++ [[]]).length : Nat) : Int) = (K : Int) + 1 := by simp [hK]
    rw [e] at k
    exact k)
  have HJ : Hid (∀ (w : World) (S' : Nat → Prop), fA w g S' (E ++ [[]] ++ [[]]) F (R ++ [-1] ++ [-1]) → Calls Try.prog 52 #[.pointer (some ⟨g, 0, none⟩), .int .i64 (K : Int), .int .i64 ((K : Int) + 1), .agg #[.int .i64 z, .bool f, .int .u64 (x0 : Int), .int .u64 (x1 : Int), .int .u64 (x2 : Int), .int .u64 (x3 : Int)]] w fun e w' => e = .returned (.tuple #[]) ∧ ∃ S'', fA w' g S'' (jn (E ++ [[], []]) K (K + 1) f [x0, x1, x2, x3]) F (R ++ List.replicate 2 (-1)) ∧ goes S' S'' w w') := Lib.hid (fun w S' h => by
    rw [← two_one] at h
    have k := join_any (z := z) (f := f) (a := K) (b := K + 1) (by rw [two_len]; omega) (by rw [sm_two]; exact hm) (by omega) hs (Lib.hid h)
    have e : ((K + 1 : Nat) : Int) = (K : Int) + 1 := by omega
    rw [e] at k
    have e2 : R ++ [-1] ++ [-1] = R ++ List.replicate 2 (-1 : Int) := by simp [List.replicate]
    rw [e2] at k
    exact k)
  have HN := Lib.hid hS
  have HN2 := Lib.hid hS2
  have HL := Lib.hid hl
  have HL2 := Lib.hid hl2
  have hK5 : K + 2 ≤ 100000 := by omega
  rw [← hK]
  clear hK hS hS2 hl hl2 hE hR hm H
  go_enter Try.func63, Try.ntmps63
  go_upto_region 1 with fail
  go_region_held3 (fun w' => w'.cell? ⟨bn, 0, none⟩ = some (.pointer (some ⟨g, 0, none⟩)))
    (first | exact hbn | assumption)
    (first | (go_at_call 28; with_reducible refine (HA.out).mono ?_; rintro e w4 ⟨rfl, S4, f4, g4⟩; have F4 := Lib.hid f4; have G4 := Lib.hid (G0.out.trans g4); have c4 := (G4.out.cell (j := 0) HN.out HL.out).trans hbn; clear f4 g4) | (go_at_call 28; with_reducible refine (HB.out _ _ F4.out).mono ?_; rintro e w5 ⟨rfl, S5, f5, g5⟩; have F5 := Lib.hid f5; have G5 := Lib.hid (G4.out.trans g5); have c5 := (G5.out.cell (j := 0) HN.out HL.out).trans hbn; clear f5 g5))
  have e0' := (G5.out.cell (j := 0) HN2.out HL2.out).trans e0
  have e1' := (G5.out.cell (j := 1) HN2.out HL2.out).trans e1
  have e2' := (G5.out.cell (j := 2) HN2.out HL2.out).trans e2
  have e3' := (G5.out.cell (j := 3) HN2.out HL2.out).trans e3
  have e4' := (G5.out.cell (j := 4) HN2.out HL2.out).trans e4
  have e5' := (G5.out.cell (j := 5) HN2.out HL2.out).trans e5
  clear e0 e1 e2 e3 e4 e5 hbn c4 F4 G4
  go_wp2_with (go_at_call 52; refine (HJ.out _ _ F5.out).mono ?_; rintro e w6 ⟨rfl, S6, f6, g6⟩; have F6 := Lib.hid f6; have G6 := Lib.hid (G5.out.trans g6); clear f6 g6)
  go_ret2
  exact ⟨rfl, _, F6.out, G6.out⟩
end Go.Proofs.Ythjelilmlbbalaa.Dj
namespace Go.Proofs.Ythjelilmlbbalaa.Dk
open Go.RowKit Go.Proofs.Ythjelilmlbbalaa.Vm Go.Proofs.Ythjelilmlbbalaa.Vo Go.Proofs.Ythjelilmlbbalaa.Bw Go.Proofs.Ythjelilmlbbalaa.Na Go.Proofs.Ythjelilmlbbalaa.Ko Go.Proofs.Ythjelilmlbbalaa.Tm Go.Proofs.Ythjelilmlbbalaa.Ta Go.Proofs.Ythjelilmlbbalaa.Tb Go.Proofs.Ythjelilmlbbalaa.Tf Go.Proofs.Ythjelilmlbbalaa.Rm Go.Proofs.Ythjelilmlbbalaa.Ra Go.Proofs.Ythjelilmlbbalaa.Ed Go.Proofs.Ythjelilmlbbalaa.An Go.Proofs.Ythjelilmlbbalaa.Aa Go.Proofs.Ythjelilmlbbalaa.Ar Go.Proofs.Ythjelilmlbbalaa.Da Go.Proofs.Ythjelilmlbbalaa.Db Go.Proofs.Ythjelilmlbbalaa.Dm Go.Proofs.Ythjelilmlbbalaa.Dn Go.Proofs.Ythjelilmlbbalaa.De Go.Proofs.Ythjelilmlbbalaa.Dc Go.Proofs.Ythjelilmlbbalaa.Df Go.Proofs.Ythjelilmlbbalaa.Dj

/-- What a plan's call leaves. -/
def mkd (g : Nat) (S0 : Nat → Prop) (u : World) (t : T) (E : List (List Eg)) (F : Int) (R : List Int) (e : Ending) (w' : World) : Prop := e = .returned (.tuple #[.int .i64 ((bT t E).i : Int), .int .i64 ((bT t E).o : Int)]) ∧ ∃ S', fA w' g S' (bT t E).E F (R ++ List.replicate (szU t) (-1)) ∧ goes S0 S' u w'
/-- A plan that can be called in each world to which the automaton has gone. -/
def calls (g : Nat) (S : Nat → Prop) (u : World) (t : T) (v : Value) : Prop := ∃ k caps, v = .func (.func k) #[] caps ∧ (∀ args w, (callFunc k args).run Try.prog w = .ok (.enter k args) w) ∧ ∀ (w : World) (S' : Nat → Prop) (E : List (List Eg)) (F : Int) (R : List Int), goes S S' u w → fA w g S' E F R → R.length = E.length → E.length + szU t ≤ 100000 → sm E + 2 * szU t ≤ 100000 →
  Calls Try.prog k caps w fun e w' => mkd g S u t E F R e w'
theorem plan_calls {u : World} {g : Nat} {t : T} {v : Value} {Z S : Nat → Prop} (h : plan u g t v Z) (hz : ∀ i, Z i → ¬ S i) : calls g S u t v := by
  obtain ⟨k, caps, e, h1, h2⟩ := h.c
  refine ⟨k, caps, e, h1, fun w S' E F R hg hf hR hE hm => ?_⟩
  refine (h2 w S' E F R (fun i hi => hg.1.block i (h.lt i hi) (hz i hi)) (fun i hi => hg.not (hz i hi) (h.lt i hi)) hf hR hE hm).mono ?_
  rintro e w' ⟨rfl, S'', f, g'⟩
  exact ⟨rfl, S'', f, hg.trans g'⟩
/-- A row of plans. -/
structure kidz (w : World) (g : Nat) (ts : List T) (kb : Nat) (V : Nat → Value) (Z : Nat → Prop) : Prop where
  c : ∀ j, j < ts.length → w.cell? ⟨kb, j, none⟩ = some (V j)
  p : ∀ (j : Nat) (t : T), ts[j]? = some t → plan w g t (V j) Z
  zk : Z kb
  lt : ∀ i, Z i → i < w.heap.size
theorem cut_plans {kb n c x : Nat} (hx : x ≤ n) (hc : x < c) : ∀ u : World, (Instr.slice 86 (.slice (some ⟨kb, 0, none⟩) n c) (some (.int .i64 (x : Int))) none none).run Try.prog u = .ok (.slice (some ⟨kb, x, none⟩) (n - x) (c - x)) u := by
  intro u
  have c8 : ∀ w, (Go.sizeOf 54).run Try.prog w = .ok 1 w := fun w => by first | exact Try.sizeOf54 w | kernel_rfl
  have g1 : (0 : Int) ≤ (x : Int) := by omega
  have g2 : (x : Int) ≤ (n : Int) := by omega
  have g4 : ¬ (c = x) := by omega
  have e : (⟨kb, 0, none⟩ : Addr).add (x * 1) = ⟨kb, x, none⟩ := by unfold Addr.add; split <;> simp_all
  go_simp
  first | done | simp [e] | (simp [g4, e])
end Go.Proofs.Ythjelilmlbbalaa.Dk
namespace Go.Proofs.Ythjelilmlbbalaa.Dl
open Go.RowKit Go.Proofs.Ythjelilmlbbalaa.Vm Go.Proofs.Ythjelilmlbbalaa.Vo Go.Proofs.Ythjelilmlbbalaa.Bw Go.Proofs.Ythjelilmlbbalaa.Na Go.Proofs.Ythjelilmlbbalaa.Ko Go.Proofs.Ythjelilmlbbalaa.Tm Go.Proofs.Ythjelilmlbbalaa.Ta Go.Proofs.Ythjelilmlbbalaa.Tb Go.Proofs.Ythjelilmlbbalaa.Tf Go.Proofs.Ythjelilmlbbalaa.Rm Go.Proofs.Ythjelilmlbbalaa.Ra Go.Proofs.Ythjelilmlbbalaa.Ed Go.Proofs.Ythjelilmlbbalaa.An Go.Proofs.Ythjelilmlbbalaa.Aa Go.Proofs.Ythjelilmlbbalaa.Ar Go.Proofs.Ythjelilmlbbalaa.Da Go.Proofs.Ythjelilmlbbalaa.Db Go.Proofs.Ythjelilmlbbalaa.Dm Go.Proofs.Ythjelilmlbbalaa.Dn Go.Proofs.Ythjelilmlbbalaa.De Go.Proofs.Ythjelilmlbbalaa.Dc Go.Proofs.Ythjelilmlbbalaa.Df Go.Proofs.Ythjelilmlbbalaa.Dj Go.Proofs.Ythjelilmlbbalaa.Dk

theorem okTs_get : ∀ {l : List T} {j : Nat} {t : T}, okTs l → l[j]? = some t → okT t
  | [], _, _, _, h => by simp at h
  | x :: l, 0, t, h, e => by unfold okTs at h; simp at e; subst e; exact h.1
  | x :: l, j + 1, t, h, e => by unfold okTs at h; rw [List.getElem?_cons_succ] at e; exact okTs_get h.2 e
/-- Where the chain stands behind the first so many further kids. -/
structure chS (E : List (List Eg)) (t0 : T) (l : List T) (j : Nat) (Ej : List (List Eg)) (o m : Nat) : Prop where
  e : bCs (l.take j) (bT t0 E).E (bT t0 E).o = (Ej, o)
  nm : m = szU t0 + szUs (l.take j)
  len : Ej.length = E.length + m
  su : sm Ej ≤ sm E + 2 * m
  oh : o < Ej.length
theorem chS_at {E : List (List Eg)} {t0 : T} {l : List T} (h0 : okT t0) (hl : okTs l) (j : Nat) : ∃ Ej o n, chS E t0 l j Ej o n := by
  have k := bCs_pt (l.take j) (okTs_take l j hl) E _ _ _ (bT_pt t0 h0 E)
  have h1 := bT_sm t0 h0 E
  have h2 := bCs_sm (l.take j) (okTs_take l j hl) (bT t0 E).E (bT t0 E).o
  refine ⟨_, _, _, rfl, rfl, ?_, ?_, ?_⟩
  · have := k.len; simp only at this; exact this
  · omega
  · have := k.bd; simp only at this; exact this.2.2
theorem chS_next {E Ej : List (List Eg)} {t0 t : T} {l : List T} {j o n : Nat} (h0 : okT t0) (hl : okTs l) (h : chS E t0 l j Ej o n) (ht : l[j]? = some t) : chS E t0 l (j + 1) (fr (bT t Ej).E o (bT t Ej).i) (bT t Ej).o (n + szU t) := by
  have e : l.take (j + 1) = l.take j ++ [t] := by rw [List.take_add_one, ht]; rfl
  have e2 : bCs (l.take (j + 1)) (bT t0 E).E (bT t0 E).o = (fr (bT t Ej).E o (bT t Ej).i, (bT t Ej).o) := by rw [e, bCs_snoc, h.e]
  obtain ⟨E2, o2, n2, k⟩ := chS_at (E := E) h0 hl (j + 1)
  have ke := k.e
  rw [e2] at ke
  injection ke with k1 k2
  have hn : n2 = n + szU t := by rw [k.nm, h.nm, szUs_take ht]; omega
  rw [hn, ← k1, ← k2] at k
  exact k
set_option maxHeartbeats 2000000 in
set_option maxRecDepth 100000 in
theorem chain_any {u : World} {g bk bn kb c : Nat} {V : Nat → Value} {Z S : Nat → Prop} {E : List (List Eg)} {F : Int} {R : List Int} {t0 : T} {l : List T} (h0 : okT t0) (hl : okTs l) (hn : 1 ≤ l.length) (hc : l.length + 1 ≤ c) (hn2 : l.length ≤ 100000) (HK : Hid (kidz u g (t0 :: l) kb V Z))
    (zk : Z bk) (zn : Z bn) (hbk : u.cell? ⟨bk, 0, none⟩ = some (.slice (some ⟨kb, 0, none⟩) (l.length + 1) c)) (hbn : u.cell? ⟨bn, 0, none⟩ = some (.pointer (some ⟨g, 0, none⟩)))
    (hz : ∀ i, Z i → ¬ S i) (hE : E.length + szUs (t0 :: l) ≤ 100000) (hm : sm E + 2 * szUs (t0 :: l) ≤ 100000) (hR : R.length = E.length) (H : Hid (fA u g S E F R)) :
    Calls Try.prog 64 #[.pointer (some ⟨bk, 0, none⟩), .pointer (some ⟨bn, 0, none⟩)] u fun e u' => e = .returned (.tuple #[.int .i64 ((bC (t0 :: l) E).i : Int), .int .i64 ((bC (t0 :: l) E).o : Int)]) ∧ ∃ S', fA u' g S' (bC (t0 :: l) E).E F (R ++ List.replicate (szUs (t0 :: l)) (-1)) ∧ goes S S' u u' := by
  obtain ⟨n, hnl⟩ : ∃ n, n = l.length := ⟨_, rfl⟩
  rw [← hnl] at hn hc hn2 hbk
  have HN := Lib.hid hnl
  have HZL : Hid (∀ i, Z i → i < u.heap.size) := Lib.hid HK.out.lt
  have HZ := Lib.hid hz
  have HC : Hid (∀ j t, (t0 :: l)[j]? = some t → calls g S u t (V j)) := Lib.hid (fun j t ht => plan_calls (HK.out.p j t ht) hz)
  have HCL : Hid (∀ (w : World) (S' : Nat → Prop) (j : Nat), goes S S' u w → j < n + 1 → w.cell? ⟨kb, j, none⟩ = some (V j)) := Lib.hid (fun w S' j hg hj => (hg.cell (hz _ HK.out.zk) (HK.out.lt _ HK.out.zk)).trans (HK.out.c j (by rw [List.length_cons, ← hnl]; exact hj)))
  have HBK : Hid (∀ (w : World) (S' : Nat → Prop), goes S S' u w → w.cell? ⟨bk, 0, none⟩ = some (.slice (some ⟨kb, 0, none⟩) (n + 1) c) ∧ w.cell? ⟨bn, 0, none⟩ = some (.pointer (some ⟨g, 0, none⟩))) := Lib.hid (fun w S' hg => ⟨(hg.cell (hz _ zk) (HK.out.lt _ zk)).trans hbk, (hg.cell (hz _ zn) (HK.out.lt _ zn)).trans hbn⟩)
  have HSZ : Hid (szUs (t0 :: l) = szU t0 + szUs l) := Lib.hid rfl
  have HE : Hid (E.length + szUs (t0 :: l) ≤ 100000 ∧ sm E + 2 * szUs (t0 :: l) ≤ 100000 ∧ R.length = E.length) := Lib.hid ⟨hE, hm, hR⟩
  have HO0 := Lib.hid h0
  have HOL := Lib.hid hl
  have hcut := cut_plans (kb := kb) (n := n + 1) (c := c) (x := 1) (by omega) (by omega)
  have g0 := goes.refl S u
  obtain ⟨k0, caps0, hv0, hent0, hc0⟩ := HC.out 0 t0 rfl
  have cv0 := HCL.out u S 0 g0 (by omega)
  rw [hv0] at cv0
  have HC0 : Hid (Calls Try.prog k0 caps0 u fun e w' => mkd g S u t0 E F R e w') := Lib.hid (hc0 u S E F R g0 H.out hR (by rw [HSZ.out] at hE; omega) (by rw [HSZ.out] at hm; omega))
  obtain ⟨i0, hi0⟩ : ∃ i, i = (bT t0 E).i := ⟨_, rfl⟩
  obtain ⟨o0, ho0⟩ : ∃ o, o = (bT t0 E).o := ⟨_, rfl⟩
  have HI0 := Lib.hid hi0
  have HOO := Lib.hid ho0
  have hnc : (1 : Int) ≤ ((n + 1 : Nat) : Int) := by omega
  have hnp : (0 : Int) < ((n + 1 : Nat) : Int) := by omega
  clear h0 hl hz hE hm hR hnl zk zn hc0 g0 HK hv0 hi0 ho0 H
  go_enter Try.func64, Try.ntmps64
  go_wp2_with (go_at_fn k0; refine HC0.out.mono ?_; rintro e w4 ⟨rfl, S4, f4, g4⟩; have F4 := Lib.hid f4; have G4 := Lib.hid g4; have c4 := (HBK.out w4 S4 g4).1; rw [← HI0.out, ← HOO.out]; clear f4 g4)
  go_loopw [5, 7, 8, 9, 20] (fun s5 _ _ _ s20 wr => ∃ (j o m : Nat) (Ej : List (List Eg)) (Sj : Nat → Prop), s5 = .int .i64 (o : Int) ∧ s20 = .int .i64 (j : Int) ∧ j ≤ n ∧ Hid (chS E t0 l j Ej o m) ∧ Hid (fA wr g Sj Ej F (R ++ List.replicate m (-1))) ∧ Hid (goes S Sj u wr)) (fun _ _ _ _ s20 _ => n - (intOf s20).toNat)
  case atStart =>
    have k := bT_pt t0 HO0.out E
    have k2 := bT_sm t0 HO0.out E
    exact ⟨0, o0, szU t0, _, S4, rfl, rfl, by omega, Lib.hid ⟨by rw [List.take_zero, bCs, HOO.out], by simp [szUs], k.len, by omega, by rw [HOO.out]; exact k.bd.2.2⟩, F4, G4⟩
  case round =>
    obtain ⟨j, o, m, Ej, Sj, rfl, rfl, hj, HS, HF, HG⟩ := hrel
    by_cases hjn : j < n
    · have hjn' : (j : Int) < (n : Int) := by omega
      have hj0 : (0 : Int) ≤ (j : Int) := by omega
      obtain ⟨t, ht⟩ : ∃ t, l[j]? = some t := ⟨_, List.getElem?_eq_getElem (by rw [← HN.out]; exact hjn)⟩
      have HT := Lib.hid ht
      have hok := okTs_get HOL.out ht
      have hpt := bT_pt t hok Ej
      have hle : szUs (l.take j) + szU t ≤ szUs l := by rw [← szUs_take ht]; exact szUs_le l (j + 1)
      have HX : Hid (chS E t0 l (j + 1) (fr (bT t Ej).E o (bT t Ej).i) (bT t Ej).o (m + szU t)) := Lib.hid (chS_next HO0.out HOL.out HS.out ht)
      have hb : Ej.length + szU t ≤ 100000 ∧ sm Ej + 2 * szU t ≤ 100000 := by
        have h1 := HS.out.len; have h2 := HS.out.su; have h3 := HS.out.nm; have h4 := HE.out; have h5 := HSZ.out
        omega
      obtain ⟨k1, caps1, hv1, hent1, hc1⟩ := HC.out (j + 1) t (by rw [List.getElem?_cons_succ]; exact ht)
      have cv1 : wr.cell? ⟨kb, 1 + j, none⟩ = some (V (j + 1)) := by rw [Nat.add_comm]; exact HCL.out wr Sj (j + 1) HG.out (by omega)
      rw [hv1] at cv1
      have HC1 : Hid (Calls Try.prog k1 caps1 wr fun e w' => mkd g S u t Ej F (R ++ List.replicate m (-1)) e w') := Lib.hid (hc1 wr Sj Ej F _ HG.out HF.out (by have := HE.out; have := HS.out.len; simp; omega) hb.1 hb.2)
      have HFR : Hid (∀ (w : World) (S' : Nat → Prop) (R' : List Int), fA w g S' (bT t Ej).E F R' → Calls Try.prog 30 #[.pointer (some ⟨g, 0, none⟩), .int .i64 (o : Int), .int .i64 ((bT t Ej).i : Int)] w fun e w' => e = .returned (.tuple #[]) ∧ ∃ S'', fA w' g S'' (fr (bT t Ej).E o (bT t Ej).i) F R' ∧ goes S' S'' w w') := Lib.hid (fun w S' R' h => free_any (by have := HS.out.oh; have := hpt.len; omega) (by have := bT_sm t hok Ej; omega) (by have := hpt.bd; have := hpt.len; omega) (Lib.hid h))
      obtain ⟨i1, hi1⟩ : ∃ i, i = (bT t Ej).i := ⟨_, rfl⟩
      obtain ⟨o1, ho1⟩ : ∃ o, o = (bT t Ej).o := ⟨_, rfl⟩
      have HI1 := Lib.hid hi1
      have HO1 := Lib.hid ho1
      have HFR' : Hid (∀ (w : World) (S' : Nat → Prop) (R' : List Int), fA w g S' (bT t Ej).E F R' → Calls Try.prog 30 #[.pointer (some ⟨g, 0, none⟩), .int .i64 (o : Int), .int .i64 (i1 : Int)] w fun e w' => e = .returned (.tuple #[]) ∧ ∃ S'', fA w' g S'' (fr (bT t Ej).E o (bT t Ej).i) F R' ∧ goes S' S'' w w') := Lib.hid (by rw [hi1]; exact HFR.out)
      clear ht hok hpt hle hb hv1 hc1 hi1 ho1 hjn HFR
      go_wp2_with (first | (go_at_fn k1; refine HC1.out.mono ?_; rintro e w5 ⟨rfl, S5, f5, g5⟩; have F5 := Lib.hid f5; have G5 := Lib.hid g5; have c5 := (HBK.out w5 S5 g5).2; rw [← HI1.out, ← HO1.out]; clear f5 g5) | (go_at_call 30; refine (HFR'.out _ _ _ F5.out).mono ?_; rintro e w6 ⟨rfl, S6, f6, g6⟩; have F6 := Lib.hid f6; have G6 := Lib.hid (G5.out.trans g6); clear f6 g6))
      go_roundw
      case rel => exact ⟨j + 1, o1, m + szU t, _, S6, rfl, by go_num, by omega, by rw [HO1.out]; exact HX, Lib.hid (by rw [← reps (R := R) rfl]; exact F6.out), G6⟩
      case measure => simp [intOf]; omega
    · obtain rfl : j = n := by omega
      have hjn' : ¬ (j : Int) < (j : Int) := by omega
      go_wp2
      go_ret2
      have e : l.take j = l := by rw [HN.out, List.take_length]
      have k := HS.out
      have ke := k.e
      have kn := k.nm
      rw [e] at ke kn
      refine ⟨?_, Sj, ?_, HG.out⟩
      · unfold bC
        dsimp only
        rw [ke, HI0.out]
        rfl
      · unfold bC
        dsimp only
        rw [ke, HSZ.out, ← kn]
        exact HF.out
end Go.Proofs.Ythjelilmlbbalaa.Dl
namespace Go.Proofs.Ythjelilmlbbalaa.Do
open Go.RowKit Go.Proofs.Ythjelilmlbbalaa.Vm Go.Proofs.Ythjelilmlbbalaa.Vo Go.Proofs.Ythjelilmlbbalaa.Bw Go.Proofs.Ythjelilmlbbalaa.Na Go.Proofs.Ythjelilmlbbalaa.Ko Go.Proofs.Ythjelilmlbbalaa.Tm Go.Proofs.Ythjelilmlbbalaa.Ta Go.Proofs.Ythjelilmlbbalaa.Tb Go.Proofs.Ythjelilmlbbalaa.Tf Go.Proofs.Ythjelilmlbbalaa.Rm Go.Proofs.Ythjelilmlbbalaa.Ra Go.Proofs.Ythjelilmlbbalaa.Ed Go.Proofs.Ythjelilmlbbalaa.An Go.Proofs.Ythjelilmlbbalaa.Aa Go.Proofs.Ythjelilmlbbalaa.Ar Go.Proofs.Ythjelilmlbbalaa.Da Go.Proofs.Ythjelilmlbbalaa.Db Go.Proofs.Ythjelilmlbbalaa.Dm Go.Proofs.Ythjelilmlbbalaa.Dn Go.Proofs.Ythjelilmlbbalaa.De Go.Proofs.Ythjelilmlbbalaa.Dc Go.Proofs.Ythjelilmlbbalaa.Df Go.Proofs.Ythjelilmlbbalaa.Dj Go.Proofs.Ythjelilmlbbalaa.Dk Go.Proofs.Ythjelilmlbbalaa.Dl

/-- Where the choice stands behind the first so many kids. -/
structure alS (E : List (List Eg)) (l : List T) (j : Nat) (Ej : List (List Eg)) (m : Nat) : Prop where
  e : bA (l.take j) E.length (E.length + 1) (E ++ [[], []]) = Ej
  nm : m = 2 + szUs (l.take j)
  len : Ej.length = E.length + m
  su : sm Ej + 4 ≤ sm E + 2 * m
theorem alS_at {E : List (List Eg)} {l : List T} (hl : okTs l) (j : Nat) : ∃ Ej m, alS E l j Ej m := by
  have k := bA_pt (l.take j) (okTs_take l j hl) E _ _ _ _ _ (pt_none E)
  have h2 := bA_sm (l.take j) (okTs_take l j hl) E.length (E.length + 1) (E ++ [[], []])
  rw [sm_two] at h2
  refine ⟨_, _, rfl, rfl, ?_, ?_⟩
  · have := k.len; simp only at this; exact this
  · omega
theorem alS_next {E Ej : List (List Eg)} {t : T} {l : List T} {j m : Nat} (hl : okTs l) (h : alS E l j Ej m) (ht : l[j]? = some t) : alS E l (j + 1) (fr (fr (bT t Ej).E E.length (bT t Ej).i) (bT t Ej).o (E.length + 1)) (m + szU t) := by
  have e : l.take (j + 1) = l.take j ++ [t] := by rw [List.take_add_one, ht]; rfl
  have e2 : bA (l.take (j + 1)) E.length (E.length + 1) (E ++ [[], []]) = fr (fr (bT t Ej).E E.length (bT t Ej).i) (bT t Ej).o (E.length + 1) := by rw [e, bA_snoc, h.e]
  obtain ⟨E2, n2, k⟩ := alS_at (E := E) hl (j + 1)
  have ke := k.e
  rw [e2] at ke
  have hn : n2 = m + szU t := by rw [k.nm, h.nm, szUs_take ht]; omega
  rw [hn, ← ke] at k
  exact k
/-- Two states more, called one behind the other. -/
theorem states_two {u : World} {g : Nat} {S : Nat → Prop} {E : List (List Eg)} {F : Int} {R : List Int} (hE : E.length + 2 ≤ 100000) (hR : R.length = E.length) (H : Hid (fA u g S E F R)) :
    Hid (Calls Try.prog 28 #[.pointer (some ⟨g, 0, none⟩)] u.drew fun e w' => e = .returned (.int .i64 (E.length : Int)) ∧ ∃ S', fA w' g S' (E ++ [[]]) F (R ++ [-1]) ∧ goes S S' u w') ∧
    Hid (∀ (w : World) (S' : Nat → Prop), goes S S' u w → fA w g S' (E ++ [[]]) F (R ++ [-1]) → Calls Try.prog 28 #[.pointer (some ⟨g, 0, none⟩)] w fun e w' => e = .returned (.int .i64 ((E.length : Int) + 1)) ∧ ∃ S'', fA w' g S'' (E ++ [[], []]) F (R ++ List.replicate 2 (-1)) ∧ goes S S'' u w') := by
  refine ⟨Lib.hid ?_, Lib.hid fun w S' hg h => ?_⟩
  · refine (state_any (by omega) hR (Lib.hid (H.out.below (below_drew (Below.refl _ _))))).mono ?_
    rintro e w' ⟨rfl, S', f, k⟩
    exact ⟨rfl, S', f, (goes_drew _ _).trans k⟩
  · have k := state_any (E := E ++ [[]]) (by simp; omega) (by simp; omega) (Lib.hid h)
    have e : (((E ++ [[]]).length : Nat) : Int) = (E.length : Int) + 1 := by simp
    rw [e] at k
    refine k.mono ?_
    rintro e w' ⟨rfl, S'', f, k⟩
    rw [← two_one, List.append_assoc] at f
    exact ⟨rfl, S'', f, hg.trans k⟩
set_option maxHeartbeats 2000000 in
set_option maxRecDepth 100000 in
theorem choice_any {u : World} {g bk bn kb c : Nat} {V : Nat → Value} {Z S : Nat → Prop} {E : List (List Eg)} {F : Int} {R : List Int} {l : List T} (hl : okTs l) (hc : l.length ≤ c) (hn2 : l.length ≤ 100000) (HK : Hid (kidz u g l kb V Z))
    (zk : Z bk) (zn : Z bn) (hbk : u.cell? ⟨bk, 0, none⟩ = some (.slice (some ⟨kb, 0, none⟩) l.length c)) (hbn : u.cell? ⟨bn, 0, none⟩ = some (.pointer (some ⟨g, 0, none⟩)))
    (hz : ∀ i, Z i → ¬ S i) (hE : E.length + (2 + szUs l) ≤ 100000) (hm : sm E + 2 * (2 + szUs l) ≤ 100000) (hR : R.length = E.length) (H : Hid (fA u g S E F R)) :
    Calls Try.prog 65 #[.pointer (some ⟨bn, 0, none⟩), .pointer (some ⟨bk, 0, none⟩)] u fun e u' => e = .returned (.tuple #[.int .i64 (E.length : Int), .int .i64 ((E.length + 1 : Nat) : Int)]) ∧ ∃ S', fA u' g S' (bA l E.length (E.length + 1) (E ++ [[], []])) F (R ++ List.replicate (2 + szUs l) (-1)) ∧ goes S S' u u' := by
  obtain ⟨n, hnl⟩ : ∃ n, n = l.length := ⟨_, rfl⟩
  rw [← hnl] at hc hn2 hbk
  have HN := Lib.hid hnl
  have HC : Hid (∀ j t, l[j]? = some t → calls g S u t (V j)) := Lib.hid (fun j t ht => plan_calls (HK.out.p j t ht) hz)
  have HCL : Hid (∀ (w : World) (S' : Nat → Prop) (j : Nat), goes S S' u w → j < n → w.cell? ⟨kb, j, none⟩ = some (V j)) := Lib.hid (fun w S' j hg hj => (hg.cell (hz _ HK.out.zk) (HK.out.lt _ HK.out.zk)).trans (HK.out.c j (by rw [← hnl]; exact hj)))
  have HBK : Hid (∀ (w : World) (S' : Nat → Prop), goes S S' u w → w.cell? ⟨bk, 0, none⟩ = some (.slice (some ⟨kb, 0, none⟩) n c) ∧ w.cell? ⟨bn, 0, none⟩ = some (.pointer (some ⟨g, 0, none⟩))) := Lib.hid (fun w S' hg => ⟨(hg.cell (hz _ zk) (HK.out.lt _ zk)).trans hbk, (hg.cell (hz _ zn) (HK.out.lt _ zn)).trans hbn⟩)
  obtain ⟨HA, HB⟩ := states_two (by omega) hR H
  obtain ⟨K, hK⟩ : ∃ K, K = E.length := ⟨_, rfl⟩
  have HKK := Lib.hid hK
  have HE : Hid (E.length + (2 + szUs l) ≤ 100000 ∧ sm E + 2 * (2 + szUs l) ≤ 100000 ∧ R.length = E.length) := Lib.hid ⟨hE, hm, hR⟩
  have HOL := Lib.hid hl
  have hK5 : K + 2 ≤ 100000 := by omega
  rw [← hK] at HA HB ⊢
  have ek : ((K + 1 : Nat) : Int) = (K : Int) + 1 := by omega
  rw [ek]
  clear hl hz hE hm hR hnl zk zn HK H hK ek
  go_enter Try.func65, Try.ntmps65
  go_upto_region 1 with fail
  go_region_held3 (fun w' => w'.cell? ⟨bn, 0, none⟩ = some (.pointer (some ⟨g, 0, none⟩)))
    (first | exact hbn | assumption)
    (first | (go_at_call 28; with_reducible refine (HA.out).mono ?_; rintro e w4 ⟨rfl, S4, f4, g4⟩; have F4 := Lib.hid f4; have G4 := Lib.hid g4; have c4 := (HBK.out _ _ g4).2; clear f4 g4) | (go_at_call 28; with_reducible refine (HB.out _ _ G4.out F4.out).mono ?_; rintro e w5 ⟨rfl, S5, f5, g5⟩; have F5 := Lib.hid f5; have G5 := Lib.hid g5; have c5 := (HBK.out _ _ g5).2; clear f5 g5))
  have c6 := (HBK.out _ _ G5.out).1
  clear c4 c5 F4 G4 HA HB hbk hbn
  go_wp2
  go_loopw [7, 8, 9, 16] (fun _ _ _ s16 wr => ∃ (j m : Nat) (Ej : List (List Eg)) (Sj : Nat → Prop), s16 = .int .i64 (j : Int) ∧ j ≤ n ∧ Hid (alS E l j Ej m) ∧ Hid (fA wr g Sj Ej F (R ++ List.replicate m (-1))) ∧ Hid (goes S Sj u wr)) (fun _ _ _ s16 _ => n - (intOf s16).toNat)
  case atStart => exact ⟨0, 2, _, S5, rfl, by omega, Lib.hid ⟨by rw [List.take_zero, bA], by simp [szUs], two_len E, by rw [sm_two]; omega⟩, F5, G5⟩
  case round =>
    obtain ⟨j, m, Ej, Sj, rfl, hj, HS, HF, HG⟩ := hrel
    by_cases hjn : j < n
    · have hjn' : (j : Int) < (n : Int) := by omega
      have hj0 : (0 : Int) ≤ (j : Int) := by omega
      obtain ⟨t, ht⟩ : ∃ t, l[j]? = some t := ⟨_, List.getElem?_eq_getElem (by rw [← HN.out]; exact hjn)⟩
      have hok := okTs_get HOL.out ht
      have hpt := bT_pt t hok Ej
      have hle : szUs (l.take j) + szU t ≤ szUs l := by rw [← szUs_take ht]; exact szUs_le l (j + 1)
      have HX : Hid (alS E l (j + 1) (fr (fr (bT t Ej).E E.length (bT t Ej).i) (bT t Ej).o (E.length + 1)) (m + szU t)) := Lib.hid (alS_next HOL.out HS.out ht)
      have hb : Ej.length + szU t ≤ 100000 ∧ sm Ej + 2 * szU t ≤ 100000 := by
        have h1 := HS.out.len; have h2 := HS.out.su; have h3 := HS.out.nm; have h4 := HE.out
        omega
      obtain ⟨k1, caps1, hv1, hent1, hc1⟩ := HC.out j t ht
      have cv1 : wr.cell? ⟨kb, j, none⟩ = some (V j) := HCL.out wr Sj j HG.out hjn
      rw [hv1] at cv1
      have HC1 : Hid (Calls Try.prog k1 caps1 wr fun e w' => mkd g S u t Ej F (R ++ List.replicate m (-1)) e w') := Lib.hid (hc1 wr Sj Ej F _ HG.out HF.out (by have := HE.out; have := HS.out.len; simp; omega) hb.1 hb.2)
      have hsm := bT_sm t hok Ej
      have hlb := hpt.bd
      have hln := hpt.len
      have hkE := HKK.out
      have hsl := HS.out.len
      have hsn := HS.out.nm
      obtain ⟨i1, hi1⟩ : ∃ i, i = (bT t Ej).i := ⟨_, rfl⟩
      obtain ⟨o1, ho1⟩ : ∃ o, o = (bT t Ej).o := ⟨_, rfl⟩
      have HI1 := Lib.hid hi1
      have HO1 := Lib.hid ho1
      have HF1 : Hid (∀ (w : World) (S' : Nat → Prop) (R' : List Int), fA w g S' (bT t Ej).E F R' → Calls Try.prog 30 #[.pointer (some ⟨g, 0, none⟩), .int .i64 (K : Int), .int .i64 (i1 : Int)] w fun e w' => e = .returned (.tuple #[]) ∧ ∃ S'', fA w' g S'' (fr (bT t Ej).E K i1) F R' ∧ goes S' S'' w w') := Lib.hid (fun w S' R' h => free_any (by omega) (by omega) (by omega) (Lib.hid h))
      have HF2 : Hid (∀ (w : World) (S' : Nat → Prop) (R' : List Int), fA w g S' (fr (bT t Ej).E K i1) F R' → Calls Try.prog 30 #[.pointer (some ⟨g, 0, none⟩), .int .i64 (o1 : Int), .int .i64 ((K : Int) + 1)] w fun e w' => e = .returned (.tuple #[]) ∧ ∃ S'', fA w' g S'' (fr (fr (bT t Ej).E K i1) o1 (K + 1)) F R' ∧ goes S' S'' w w') := Lib.hid (fun w S' R' h => by
        have k := free_any (a := o1) (b := K + 1) (by rw [fr_len]; omega) (by have := sm_fr (bT t Ej).E K i1; omega) (by omega) (Lib.hid h)
        have ek : ((K + 1 : Nat) : Int) = (K : Int) + 1 := by omega
        rw [ek] at k
        exact k)
      have HGB : Hid (∀ (w : World) (S' : Nat → Prop), goes S S' u w → w.cell? ⟨bn, 0, none⟩ = some (.pointer (some ⟨g, 0, none⟩))) := Lib.hid (fun w S' h => (HBK.out w S' h).2)
      clear ht hok hpt hle hb hv1 hc1 hi1 ho1 hjn hsm hlb hln hkE hsl hsn
      go_wp2_with (first | (go_at_fn k1; refine HC1.out.mono ?_; rintro e w5 ⟨rfl, S5, f5, g5⟩; have F5 := Lib.hid f5; have G5 := Lib.hid g5; have c5 := HGB.out w5 S5 g5; rw [← HI1.out, ← HO1.out]; clear f5 g5) | (go_at_call 30; with_reducible refine (HF1.out _ _ _ F5.out).mono ?_; rintro e w6 ⟨rfl, S6, f6, g6⟩; have F6 := Lib.hid f6; have G6 := Lib.hid (G5.out.trans g6); have c6 := HGB.out w6 S6 G6.out; clear f6 g6) | (go_at_call 30; with_reducible refine (HF2.out _ _ _ F6.out).mono ?_; rintro e w7 ⟨rfl, S7, f7, g7⟩; have F7 := Lib.hid f7; have G7 := Lib.hid (G6.out.trans g7); clear f7 g7))
      go_roundw
      case rel => exact ⟨j + 1, m + szU t, fr (fr (bT t Ej).E K i1) o1 (K + 1), S7, by go_num, by omega, by rw [HI1.out, HO1.out, HKK.out]; exact HX, Lib.hid (by rw [← reps (R := R) rfl]; exact F7.out), G7⟩
      case measure => simp [intOf]; omega
    · obtain rfl : j = n := by omega
      have hjn' : ¬ (j : Int) < (j : Int) := by omega
      go_wp2
      go_ret2
      have e : l.take j = l := by rw [HN.out, List.take_length]
      have k := HS.out
      have ke := k.e
      have kn := k.nm
      rw [e] at ke kn
      refine ⟨rfl, Sj, ?_, HG.out⟩
      rw [← kn, HKK.out, ke]
      exact HF.out
end Go.Proofs.Ythjelilmlbbalaa.Do
namespace Go.Proofs.Ythjelilmlbbalaa.Dp
open Go.RowKit Go.Proofs.Ythjelilmlbbalaa.Vm Go.Proofs.Ythjelilmlbbalaa.Vo Go.Proofs.Ythjelilmlbbalaa.Bw Go.Proofs.Ythjelilmlbbalaa.Na Go.Proofs.Ythjelilmlbbalaa.Ko Go.Proofs.Ythjelilmlbbalaa.Tm Go.Proofs.Ythjelilmlbbalaa.Ta Go.Proofs.Ythjelilmlbbalaa.Tb Go.Proofs.Ythjelilmlbbalaa.Tf Go.Proofs.Ythjelilmlbbalaa.Rm Go.Proofs.Ythjelilmlbbalaa.Ra Go.Proofs.Ythjelilmlbbalaa.Ed Go.Proofs.Ythjelilmlbbalaa.An Go.Proofs.Ythjelilmlbbalaa.Aa Go.Proofs.Ythjelilmlbbalaa.Ar Go.Proofs.Ythjelilmlbbalaa.Da Go.Proofs.Ythjelilmlbbalaa.Db Go.Proofs.Ythjelilmlbbalaa.Dm Go.Proofs.Ythjelilmlbbalaa.Dn Go.Proofs.Ythjelilmlbbalaa.De Go.Proofs.Ythjelilmlbbalaa.Dc Go.Proofs.Ythjelilmlbbalaa.Df Go.Proofs.Ythjelilmlbbalaa.Dj Go.Proofs.Ythjelilmlbbalaa.Dk Go.Proofs.Ythjelilmlbbalaa.Dl Go.Proofs.Ythjelilmlbbalaa.Do

theorem copies_any {lo : Nat} {hi : Int} (hl : lo ≤ 1000000) (hh : hi = -1 ∨ 0 ≤ hi) (w : World) : Calls Try.prog 55 #[.int .i64 (lo : Int), .int .i64 hi] w fun e w' => e = .returned (.int .i64 ((cps lo hi : Nat) : Int)) ∧ w' = w := by
  by_cases h : hi = -1
  · subst h
    have e : ((cps lo (-1) : Nat) : Int) = max (lo : Int) 1 := by unfold cps; rw [if_pos (by omega)]; omega
    rw [e]
    rcases Nat.lt_or_ge 1 lo with h1 | h1
    · have hmx : max (lo : Int) 1 = (lo : Int) := by omega
      rw [hmx]
      have h2 : (1 : Int) < (lo : Int) := by omega
      clear e
      go_enter Try.func55, Try.ntmps55
      go_wp2
      all_goals (try (first | (go_ret; exact ⟨by first | rfl | (simp; omega), rfl⟩) | (exfalso; omega)))
    · have hmx : max (lo : Int) 1 = 1 := by omega
      rw [hmx]
      clear e
      go_enter Try.func55, Try.ntmps55
      go_wp2
      all_goals (try (first | (go_ret; exact ⟨by first | rfl | (simp; omega), rfl⟩) | (exfalso; omega)))
  · have h0 : ¬ hi < 0 := by omega
    have e : ((cps lo hi : Nat) : Int) = hi := by unfold cps; rw [if_neg h0]; omega
    rw [e]
    have hb : (hi == -1) = false := by simp; exact h
    clear e
    go_enter Try.func55, Try.ntmps55
    go_wp2
    go_ret
    exact ⟨rfl, rfl⟩
/-- Where a repeat stands behind the first so many copies. -/
structure rpS (E : List (List Eg)) (t : T) (lo C j : Nat) (Ej : List (List Eg)) (st en : Nat) : Prop where
  e : rpt (fun E => bT t E) lo (E.length + 1) C 0 (E ++ [[], []]) E.length E.length = rpt (fun E => bT t E) lo (E.length + 1) (C - j) j Ej st en
  len : Ej.length = E.length + 2 + j * szU t
  su : sm Ej ≤ sm E + 2 * (j * szU t)
  enh : en < Ej.length
  sth : st < Ej.length
theorem rpS_start (E : List (List Eg)) (t : T) (lo C : Nat) : rpS E t lo C 0 (E ++ [[], []]) E.length E.length where
  e := rfl
  len := by rw [two_len]; omega
  su := by rw [sm_two]; omega
  enh := by rw [two_len]; omega
  sth := by rw [two_len]; omega
/-- The way out ahead of a copy. -/
def skp (E : List (List Eg)) (lo j en t0 : Nat) : List (List Eg) := if lo ≤ j then fr E en t0 else E
theorem skp_len (E : List (List Eg)) (lo j en t0 : Nat) : (skp E lo j en t0).length = E.length := by
  unfold skp
  split
  · exact fr_len _ _ _
  · rfl
theorem skp_sm (E : List (List Eg)) (lo j en t0 : Nat) : sm (skp E lo j en t0) ≤ sm E + 1 := by
  unfold skp
  split
  · exact sm_fr _ _ _
  · omega
theorem rpS_next {E Ej : List (List Eg)} {t : T} {lo C j st en : Nat} (h0 : okT t) (h : rpS E t lo C j Ej st en) (hj : j < C) : rpS E t lo C (j + 1) (fr (bT t (skp Ej lo j en (E.length + 1))).E en (bT t (skp Ej lo j en (E.length + 1))).i) (bT t (skp Ej lo j en (E.length + 1))).i (bT t (skp Ej lo j en (E.length + 1))).o := by
  have k := bT_pt t h0 (skp Ej lo j en (E.length + 1))
  have k1 := k.len
  have k2 := k.bd
  have k3 := bT_sm t h0 (skp Ej lo j en (E.length + 1))
  have k4 := skp_sm Ej lo j en (E.length + 1)
  have k5 := skp_len Ej lo j en (E.length + 1)
  have k6 := sm_fr (bT t (skp Ej lo j en (E.length + 1))).E en (bT t (skp Ej lo j en (E.length + 1))).i
  have h1 := h.len
  have h2 := h.su
  have h3 : (j + 1) * szU t = j * szU t + szU t := Nat.succ_mul _ _
  refine ⟨?_, by rw [fr_len]; omega, by omega, by rw [fr_len]; exact k2.2.2, by rw [fr_len]; exact k2.1.2⟩
  rw [h.e, show C - j = (C - (j + 1)) + 1 by omega, rpt]
  rfl
set_option maxHeartbeats 4000000 in
set_option maxRecDepth 100000 in
theorem rep_any {u : World} {g bn bl bh bp lo : Nat} {hi : Int} {v : Value} {S : Nat → Prop} {E : List (List Eg)} {F : Int} {R : List Int} {t : T} (h0 : okT t) (hlo : lo ≤ 1000000) (hhi : hi = -1 ∨ ((lo : Int) ≤ hi ∧ hi ≤ 1000000)) (hc : calls g S u t v)
    (hcell : ∀ (w : World) (S' : Nat → Prop), goes S S' u w → w.cell? ⟨bn, 0, none⟩ = some (.pointer (some ⟨g, 0, none⟩)) ∧ w.cell? ⟨bl, 0, none⟩ = some (.int .i64 (lo : Int)) ∧ w.cell? ⟨bh, 0, none⟩ = some (.int .i64 hi) ∧ w.cell? ⟨bp, 0, none⟩ = some v)
    (hE : E.length + (2 + cps lo hi * szU t) ≤ 100000) (hm : sm E + 2 * (2 + cps lo hi * szU t) ≤ 100000) (hR : R.length = E.length) (H : Hid (fA u g S E F R)) :
    Calls Try.prog 66 #[.pointer (some ⟨bn, 0, none⟩), .pointer (some ⟨bl, 0, none⟩), .pointer (some ⟨bh, 0, none⟩), .pointer (some ⟨bp, 0, none⟩)] u fun e u' => e = .returned (.tuple #[.int .i64 (E.length : Int), .int .i64 ((E.length + 1 : Nat) : Int)]) ∧ ∃ S', fA u' g S' (rep (fun E => bT t E) lo hi E).E F (R ++ List.replicate (2 + cps lo hi * szU t) (-1)) ∧ goes S S' u u' := by
  obtain ⟨k1, caps1, hv1, hent1, hc1⟩ := hc
  have HC1 := Lib.hid hc1
  subst hv1
  have HBK := Lib.hid hcell
  obtain ⟨hbn, _, _, _⟩ := hcell u S (goes.refl _ _)
  obtain ⟨HA, HB⟩ := states_two (by omega) hR H
  obtain ⟨K, hK⟩ : ∃ K, K = E.length := ⟨_, rfl⟩
  obtain ⟨C, hC⟩ : ∃ C, C = cps lo hi := ⟨_, rfl⟩
  have HKK := Lib.hid hK
  have HCC := Lib.hid hC
  have HCP : Hid (∀ w : World, Calls Try.prog 55 #[.int .i64 (lo : Int), .int .i64 hi] w fun e w' => e = .returned (.int .i64 (C : Int)) ∧ w' = w) := Lib.hid (fun w => by rw [hC]; exact copies_any hlo (hhi.elim .inl (fun h => .inr (by omega))) w)
  have hCS : C ≤ C * szU t := Nat.le_mul_of_pos_right _ (by have := szU_pos t h0; omega)
  rw [← hC] at hE hm
  have HE : Hid (E.length + (2 + C * szU t) ≤ 100000 ∧ sm E + 2 * (2 + C * szU t) ≤ 100000 ∧ R.length = E.length) := Lib.hid ⟨hE, hm, hR⟩
  have HOK := Lib.hid h0
  have hK5 : K + 2 ≤ 100000 := by omega
  have hC5 : C ≤ 100000 := by omega
  have HHI := Lib.hid hhi
  rw [← hK] at HA HB ⊢
  rw [← hC]
  have ek : ((K + 1 : Nat) : Int) = (K : Int) + 1 := by omega
  rw [ek]
  have HFR : Hid (∀ (w : World) (S' : Nat → Prop) (E' : List (List Eg)) (R' : List Int) (a : Nat), a < E'.length → sm E' ≤ 100000 → fA w g S' E' F R' → Calls Try.prog 30 #[.pointer (some ⟨g, 0, none⟩), .int .i64 (a : Int), .int .i64 ((K : Int) + 1)] w fun e w' => e = .returned (.tuple #[]) ∧ ∃ S'', fA w' g S'' (fr E' a (K + 1)) F R' ∧ goes S' S'' w w') := Lib.hid (fun w S' E' R' a ha hm h => by
    have k := free_any (b := K + 1) ha hm (by omega) (Lib.hid h)
    rw [ek] at k
    exact k)
  clear h0 hcell hE hm hR hK hC hc1 hCS ek H hlo hhi
  go_enter Try.func66, Try.ntmps66
  go_upto_region 1 with fail
  go_region_held3 (fun w' => w'.cell? ⟨bn, 0, none⟩ = some (.pointer (some ⟨g, 0, none⟩)))
    (first | exact hbn | assumption)
    (first | (go_at_call 28; with_reducible refine (HA.out).mono ?_; rintro e w4 ⟨rfl, S4, f4, g4⟩; have F4 := Lib.hid f4; have G4 := Lib.hid g4; have c4 := (HBK.out _ _ g4).1; clear f4 g4) | (go_at_call 28; with_reducible refine (HB.out _ _ G4.out F4.out).mono ?_; rintro e w5 ⟨rfl, S5, f5, g5⟩; have F5 := Lib.hid f5; have G5 := Lib.hid g5; have c5 := (HBK.out _ _ g5).1; clear f5 g5))
  obtain ⟨_, c6, c7, _⟩ := HBK.out _ _ G5.out
  clear c4 c5 F4 G4 HA HB hbn
  go_wp2_with (go_at_call 55; refine (HCP.out _).mono ?_; rintro e w6 ⟨rfl, rfl⟩)
  go_loopw [8, 9, 10, 11, 21] (fun s8 s9 _ _ s21 wr => ∃ (j st en : Nat) (Ej : List (List Eg)) (Sj : Nat → Prop), s8 = .int .i64 (st : Int) ∧ s9 = .int .i64 (en : Int) ∧ s21 = .int .i64 (j : Int) ∧ j ≤ C ∧ Hid (rpS E t lo C j Ej st en) ∧ Hid (fA wr g Sj Ej F (R ++ List.replicate (2 + j * szU t) (-1))) ∧ Hid (goes S Sj u wr)) (fun _ _ _ _ s21 _ => C - (intOf s21).toNat)
  case atStart => exact ⟨0, K, K, _, S5, rfl, rfl, rfl, by omega, by rw [HKK.out]; exact Lib.hid (rpS_start E t lo C), Lib.hid (by rw [Nat.zero_mul]; exact F5.out), G5⟩
  case round =>
    obtain ⟨j, st, en, Ej, Sj, rfl, rfl, rfl, hj, HS, HF, HG⟩ := hrel
    by_cases hjn : j < C
    · have hjn' : (j : Int) < (C : Int) := by omega
      have hj0 : (0 : Int) ≤ (j : Int) := by omega
      obtain ⟨X, hX⟩ : ∃ X, X = skp Ej lo j en (E.length + 1) := ⟨_, rfl⟩
      have hpt := bT_pt t HOK.out X
      have hsm := bT_sm t HOK.out X
      have hlb := hpt.bd
      have hln := hpt.len
      have hx1 := skp_len Ej lo j en (E.length + 1)
      have hx2 := skp_sm Ej lo j en (E.length + 1)
      rw [← hX] at hx1 hx2
      have hsl := HS.out.len
      have hsu := HS.out.su
      have hen := HS.out.enh
      have hle : j * szU t + szU t ≤ C * szU t := by rw [← Nat.succ_mul]; exact Nat.mul_le_mul_right _ hjn
      have hee := HE.out
      have HN : Hid (rpS E t lo C (j + 1) (fr (bT t X).E en (bT t X).i) (bT t X).i (bT t X).o) := Lib.hid (by rw [hX]; exact rpS_next HOK.out HS.out hjn)
      have HC2 : Hid (∀ (w : World) (S' : Nat → Prop), goes S S' u w → fA w g S' X F (R ++ List.replicate (2 + j * szU t) (-1)) → Calls Try.prog k1 caps1 w fun e w' => mkd g S u t X F (R ++ List.replicate (2 + j * szU t) (-1)) e w') := Lib.hid (fun w S' hg hf => HC1.out w S' X F _ hg hf (by simp; omega) (by omega) (by omega))
      obtain ⟨i1, hi1⟩ : ∃ i, i = (bT t X).i := ⟨_, rfl⟩
      obtain ⟨o1, ho1⟩ : ∃ o, o = (bT t X).o := ⟨_, rfl⟩
      have HI1 := Lib.hid hi1
      have HO1 := Lib.hid ho1
      have HF1 : Hid (∀ (w : World) (S' : Nat → Prop) (R' : List Int), fA w g S' (bT t X).E F R' → Calls Try.prog 30 #[.pointer (some ⟨g, 0, none⟩), .int .i64 (en : Int), .int .i64 (i1 : Int)] w fun e w' => e = .returned (.tuple #[]) ∧ ∃ S'', fA w' g S'' (fr (bT t X).E en i1) F R' ∧ goes S' S'' w w') := Lib.hid (fun w S' R' h => free_any (by omega) (by omega) (by omega) (Lib.hid h))
      have HFX : Hid (Calls Try.prog 30 #[.pointer (some ⟨g, 0, none⟩), .int .i64 (en : Int), .int .i64 ((K : Int) + 1)] wr fun e w' => e = .returned (.tuple #[]) ∧ ∃ S'', fA w' g S'' (fr Ej en (K + 1)) F (R ++ List.replicate (2 + j * szU t) (-1)) ∧ goes Sj S'' wr w') := Lib.hid (HFR.out wr Sj Ej _ en hen (by omega) HF.out)
      have hcw := HBK.out wr Sj HG.out
      obtain ⟨c0, c1, c2, c3⟩ := hcw
      have HL : Hid (R ++ List.replicate (2 + j * szU t) (-1) ++ List.replicate (szU t) (-1) = R ++ List.replicate (2 + (j + 1) * szU t) (-1 : Int)) := Lib.hid (reps (by rw [Nat.succ_mul]; omega))
      have HXE := Lib.hid hX
      clear hX hpt hsm hlb hln hx1 hx2 hsl hsu hen hle hee hi1 ho1 hjn
      by_cases hlj : lo ≤ j
      · have hlj' : (lo : Int) ≤ (j : Int) := by omega
        have HX2 : Hid (X = fr Ej en (K + 1)) := Lib.hid (by rw [HXE.out, HKK.out]; unfold skp; rw [if_pos hlj])
        clear hlj
        go_wp2_with (first | (go_at_call 30; with_reducible refine (HFX.out).mono ?_; rintro e w5 ⟨rfl, S5, f5, g5⟩; rw [← HX2.out] at f5; have F5 := Lib.hid f5; have G5 := Lib.hid (HG.out.trans g5); obtain ⟨c5, _, _, c53⟩ := HBK.out w5 S5 G5.out; clear f5 g5) | (go_at_fn k1; refine (HC2.out _ _ G5.out F5.out).mono ?_; rintro e w6 ⟨rfl, S6, f6, g6⟩; have F6 := Lib.hid f6; have G6 := Lib.hid g6; have c6 := (HBK.out w6 S6 g6).1; rw [← HI1.out, ← HO1.out]; clear f6 g6) | (go_at_call 30; with_reducible refine (HF1.out _ _ _ F6.out).mono ?_; rintro e w7 ⟨rfl, S7, f7, g7⟩; have F7 := Lib.hid f7; have G7 := Lib.hid (G6.out.trans g7); clear f7 g7))
        go_roundw
        case rel => exact ⟨j + 1, i1, o1, fr (bT t X).E en i1, S7, rfl, rfl, by go_num, by omega, by rw [HI1.out, HO1.out]; exact HN, Lib.hid (by rw [← HL.out]; exact F7.out), G7⟩
        case measure => simp [intOf]; omega
      · have hlj' : ¬ (lo : Int) ≤ (j : Int) := by omega
        have HX2 : Hid (X = Ej) := Lib.hid (by rw [HXE.out]; unfold skp; rw [if_neg hlj])
        have F5 : Hid (fA wr g Sj X F (R ++ List.replicate (2 + j * szU t) (-1))) := Lib.hid (by rw [HX2.out]; exact HF.out)
        clear hlj
        go_wp2_with (first | (go_at_fn k1; refine (HC2.out _ _ HG.out F5.out).mono ?_; rintro e w6 ⟨rfl, S6, f6, g6⟩; have F6 := Lib.hid f6; have G6 := Lib.hid g6; have c6 := (HBK.out w6 S6 g6).1; rw [← HI1.out, ← HO1.out]; clear f6 g6) | (go_at_call 30; with_reducible refine (HF1.out _ _ _ F6.out).mono ?_; rintro e w7 ⟨rfl, S7, f7, g7⟩; have F7 := Lib.hid f7; have G7 := Lib.hid (G6.out.trans g7); clear f7 g7))
        go_roundw
        case rel => exact ⟨j + 1, i1, o1, fr (bT t X).E en i1, S7, rfl, rfl, by go_num, by omega, by rw [HI1.out, HO1.out]; exact HN, Lib.hid (by rw [← HL.out]; exact F7.out), G7⟩
        case measure => simp [intOf]; omega
    · obtain rfl : j = C := by omega
      have hjn' : ¬ (j : Int) < (j : Int) := by omega
      have hsl := HS.out.len
      have hsu := HS.out.su
      have hen := HS.out.enh
      have hst := HS.out.sth
      have hee := HE.out
      have hse := HS.out.e
      rw [Nat.sub_self, rpt] at hse
      obtain ⟨c0, c1, c2, c3⟩ := HBK.out wr Sj HG.out
      have HFX : Hid (Calls Try.prog 30 #[.pointer (some ⟨g, 0, none⟩), .int .i64 (en : Int), .int .i64 ((K : Int) + 1)] wr fun e w' => e = .returned (.tuple #[]) ∧ ∃ S'', fA w' g S'' (fr Ej en (K + 1)) F (R ++ List.replicate (2 + j * szU t) (-1)) ∧ goes Sj S'' wr w') := Lib.hid (HFR.out wr Sj Ej _ en hen (by omega) HF.out)
      have HF2 : Hid (∀ (w : World) (S' : Nat → Prop) (R' : List Int), fA w g S' (fr Ej en (K + 1)) F R' → Calls Try.prog 30 #[.pointer (some ⟨g, 0, none⟩), .int .i64 (en : Int), .int .i64 (st : Int)] w fun e w' => e = .returned (.tuple #[]) ∧ ∃ S'', fA w' g S'' (fr (fr Ej en (K + 1)) en st) F R' ∧ goes S' S'' w w') := Lib.hid (fun w S' R' h => free_any (by rw [fr_len]; omega) (by have := sm_fr Ej en (K + 1); omega) (by omega) (Lib.hid h))
      have HRE : Hid (rep (fun E => bT t E) lo hi E = ⟨if hi = -1 then fr (fr Ej en (K + 1)) en st else fr Ej en (K + 1), K, K + 1⟩) := Lib.hid (by
        unfold rep
        rw [← HCC.out]
        dsimp only
        rw [hse, HKK.out])
      clear hsl hsu hen hst hee hse hjn
      by_cases hh : hi = -1
      · subst hh
        go_wp2_with (first | (go_at_call 30; with_reducible refine (HFX.out).mono ?_; rintro e w5 ⟨rfl, S5, f5, g5⟩; have F5 := Lib.hid f5; have G5 := Lib.hid (HG.out.trans g5); obtain ⟨c5, _, c52, _⟩ := HBK.out w5 S5 G5.out; clear f5 g5) | (go_at_call 30; with_reducible refine (HF2.out _ _ _ F5.out).mono ?_; rintro e w7 ⟨rfl, S7, f7, g7⟩; have F7 := Lib.hid f7; have G7 := Lib.hid (G5.out.trans g7); clear f7 g7))
        go_ret2
        refine ⟨rfl, _, ?_, G7.out⟩
        rw [HRE.out]
        dsimp only
        simp only [if_true]
        exact F7.out
      · have hh' : (hi == -1) = false := by simp; exact hh
        have HH := Lib.hid hh
        clear hh
        go_wp2_with (first | (go_at_call 30; with_reducible refine (HFX.out).mono ?_; rintro e w5 ⟨rfl, S5, f5, g5⟩; have F5 := Lib.hid f5; have G5 := Lib.hid (HG.out.trans g5); obtain ⟨c5, _, c52, _⟩ := HBK.out w5 S5 G5.out; clear f5 g5))
        go_ret2
        refine ⟨rfl, _, ?_, G5.out⟩
        rw [HRE.out]
        dsimp only
        rw [if_neg HH.out]
        exact F5.out
end Go.Proofs.Ythjelilmlbbalaa.Dp
namespace Go.Proofs.Ythjelilmlbbalaa.Ds
open Go.RowKit Go.Proofs.Ythjelilmlbbalaa.Vm Go.Proofs.Ythjelilmlbbalaa.Vo Go.Proofs.Ythjelilmlbbalaa.Bw Go.Proofs.Ythjelilmlbbalaa.Na Go.Proofs.Ythjelilmlbbalaa.Ko Go.Proofs.Ythjelilmlbbalaa.Tm Go.Proofs.Ythjelilmlbbalaa.Ta Go.Proofs.Ythjelilmlbbalaa.Tb Go.Proofs.Ythjelilmlbbalaa.Tf Go.Proofs.Ythjelilmlbbalaa.Rm Go.Proofs.Ythjelilmlbbalaa.Rv Go.Proofs.Ythjelilmlbbalaa.Ra Go.Proofs.Ythjelilmlbbalaa.Rn Go.Proofs.Ythjelilmlbbalaa.Ed Go.Proofs.Ythjelilmlbbalaa.Ap Go.Proofs.Ythjelilmlbbalaa.Aj Go.Proofs.Ythjelilmlbbalaa.Dm Go.Proofs.Ythjelilmlbbalaa.De Go.Proofs.Ythjelilmlbbalaa.Dp

/-- How often a node's kids follow one another. -/
def bndQ (x : Nd) : Int × Int := if x.k = 5 then (0, -1) else if x.k = 6 then (1, -1) else if x.k = 7 then (0, 1) else if x.k = 8 then (x.lo, x.hi) else (1, 1)
/-- A node as a value. -/
def nodV (x : Nd) (x0 x1 x2 x3 : Nat) : Value := .agg #[.int .i64 x.k, .int .i64 x.n, .int .u64 (x0 : Int), .int .u64 (x1 : Int), .int .u64 (x2 : Int), .int .u64 (x3 : Int), .int .i64 x.lo, .int .i64 x.hi]
set_option maxHeartbeats 1000000 in
set_option maxRecDepth 100000 in
theorem bounds_any {k n lo hi x0 x1 x2 x3 : Int} (w : World) : Calls Try.prog 50 #[.agg #[.int .i64 k, .int .i64 n, .int .u64 x0, .int .u64 x1, .int .u64 x2, .int .u64 x3, .int .i64 lo, .int .i64 hi]] w fun e w' =>
    e = .returned (.tuple #[.int .i64 (bndQ ⟨k, n, [], lo, hi⟩).1, .int .i64 (bndQ ⟨k, n, [], lo, hi⟩).2]) ∧ Below w.heap.size w w' := by
  obtain ⟨w1, hw1⟩ : ∃ w1, w1 = w.alloc (.cells #[.int .i64 k, .int .i64 n, .int .u64 x0, .int .u64 x1, .int .u64 x2, .int .u64 x3, .int .i64 lo, .int .i64 hi] 79) := ⟨_, rfl⟩
  have B1 : Hid (Below w.heap.size w w1) := Lib.hid (by rw [hw1]; exact below_alloc _ _)
  have K1 : Hid (Blk w1 w.heap.size 79 #[.int .i64 k, .int .i64 n, .int .u64 x0, .int .u64 x1, .int .u64 x2, .int .u64 x3, .int .i64 lo, .int .i64 hi]) := Lib.hid (by rw [hw1]; exact Blk.fresh _ _ _)
  have d0 : w1.cell? ⟨w.heap.size, 0, none⟩ = some (.int .i64 k) := K1.out.cell 0
  have d6 : w1.cell? ⟨w.heap.size, 6, none⟩ = some (.int .i64 lo) := K1.out.cell 6
  have d7 : w1.cell? ⟨w.heap.size, 7, none⟩ = some (.int .i64 hi) := K1.out.cell 7
  unfold bndQ
  dsimp only
  by_cases h5 : k = 5
  · rw [if_pos h5]
    subst h5
    go_enter Try.func50, Try.ntmps50
    go_upto_region 1 with fail
    rw [← hw1]
    clear hw1
    go_wp2
    go_ret2
    exact ⟨rfl, B1.out⟩
  · rw [if_neg h5]
    by_cases h6 : k = 6
    · rw [if_pos h6]
      subst h6
      go_enter Try.func50, Try.ntmps50
      go_upto_region 1 with fail
      rw [← hw1]
      clear hw1
      go_wp2
      go_ret2
      exact ⟨rfl, B1.out⟩
    · rw [if_neg h6]
      by_cases h7 : k = 7
      · rw [if_pos h7]
        subst h7
        go_enter Try.func50, Try.ntmps50
        go_upto_region 1 with fail
        rw [← hw1]
        clear hw1
        go_wp2
        go_ret2
        exact ⟨rfl, B1.out⟩
      · rw [if_neg h7]
        by_cases h8 : k = 8
        · rw [if_pos h8]
          subst h8
          go_enter Try.func50, Try.ntmps50
          go_upto_region 1 with fail
          rw [← hw1]
          clear hw1
          go_wp2
          go_quiet (fail)
          go_wp2
          go_ret2
          exact ⟨rfl, B1.out.trans ((below_draws _ _).mono (by have := B1.out.size; omega))⟩
        · rw [if_neg h8]
          have e5 : (k == 5) = false := by simp; exact h5
          have e6 : (k == 6) = false := by simp; exact h6
          have e7 : (k == 7) = false := by simp; exact h7
          have e8 : (k == 8) = false := by simp; exact h8
          go_enter Try.func50, Try.ntmps50
          go_upto_region 1 with fail
          rw [← hw1]
          clear hw1
          go_wp2
          go_ret2
          exact ⟨rfl, B1.out⟩
end Go.Proofs.Ythjelilmlbbalaa.Ds
namespace Go.Proofs.Ythjelilmlbbalaa.Dt
open Go.RowKit Go.Proofs.Ythjelilmlbbalaa.Vm Go.Proofs.Ythjelilmlbbalaa.Vo Go.Proofs.Ythjelilmlbbalaa.Bw Go.Proofs.Ythjelilmlbbalaa.Na Go.Proofs.Ythjelilmlbbalaa.Ko Go.Proofs.Ythjelilmlbbalaa.Tm Go.Proofs.Ythjelilmlbbalaa.Ta Go.Proofs.Ythjelilmlbbalaa.Tb Go.Proofs.Ythjelilmlbbalaa.Tf Go.Proofs.Ythjelilmlbbalaa.Rm Go.Proofs.Ythjelilmlbbalaa.Rv Go.Proofs.Ythjelilmlbbalaa.Ra Go.Proofs.Ythjelilmlbbalaa.Rn Go.Proofs.Ythjelilmlbbalaa.Ed Go.Proofs.Ythjelilmlbbalaa.Ap Go.Proofs.Ythjelilmlbbalaa.Aj Go.Proofs.Ythjelilmlbbalaa.Dm Go.Proofs.Ythjelilmlbbalaa.De Go.Proofs.Ythjelilmlbbalaa.Dp Go.Proofs.Ythjelilmlbbalaa.Ds

theorem cut_one {b off n c : Nat} (h1 : 1 ≤ n) (h2 : n ≤ c) : ∃ A', (∀ u : World, (Instr.slice 35 (.slice (some ⟨b, off, none⟩) n c) (some (.int .i64 1)) none none).run Try.prog u = .ok (.slice A' (n - 1) (c - 1)) u) ∧ (1 < c → A' = some ⟨b, off + 8, none⟩) := by
  have g2 : (1 : Int) ≤ (n : Int) := by omega
  have c8 : ∀ w, (Go.sizeOf 79).run Try.prog w = .ok 8 w := fun w => by first | exact Try.sizeOf79 w | kernel_rfl
  have e : (⟨b, off, none⟩ : Addr).add (1 * 8) = ⟨b, off + 8, none⟩ := by unfold Addr.add; split <;> simp_all
  refine ⟨if c = 1 then some ⟨b, off, none⟩ else some ⟨b, off + 8, none⟩, fun u => ?_, fun h => if_neg (by omega)⟩
  have n0 : ((n : Int) - 1).toNat = n - 1 := by omega
  have n1 : ((c : Int) - 1).toNat = c - 1 := by omega
  go_simp
  first | done | (split <;> simp_all) | simp_all
/-- What is left of a list of nodes behind its first one. -/
theorem nds_rest {w : World} {b off c : Nat} {A' : Option Addr} {x : Nd} {l : List Nd} (h : nds w (some ⟨b, off, none⟩) (x :: l)) (hc : (x :: l).length ≤ c) (hA : 1 < c → A' = some ⟨b, off + 8, none⟩) : sl w (.slice A' l.length (c - 1)) l := by
  refine ⟨A', c - 1, rfl, by simp at hc; omega, fun i y hi => ?_⟩
  have hlt := (List.getElem?_eq_some_iff.1 hi).1
  obtain ⟨b', off', e, hb, hp⟩ := h (i + 1) y (by rw [List.getElem?_cons_succ]; exact hi)
  injection e with e
  injection e with e1 e2 _
  subst e1; subst e2
  refine ⟨b, off + 8, hA (by simp at hc; omega), hb, ?_⟩
  rw [show off + 8 + i * 8 = off + (i + 1) * 8 by omega]
  exact hp
/-- A tree's size. -/
theorem sz_hd (t : T) : szQ t = min (if (hd t).k = 3 then szS (kidsT t) else 2 + cps (bndQ (hd t)).1.toNat (bndQ (hd t)).2 * szS (kidsT t)) 1000000 := by
  cases t with
  | set a => simp [szQ, hd, kidsT, szS]
  | emp => simp [szQ, hd, kidsT, szS]
  | cat l => simp [szQ, hd, kidsT]
  | alt l => simp [szQ, hd, kidsT, bndQ, cps]
  | star t => simp [szQ, hd, kidsT, bndQ, cps, szS]
  | plus t => simp [szQ, hd, kidsT, bndQ, cps, szS]
  | opt t => simp [szQ, hd, kidsT, bndQ, cps, szS]
  | rep lo hi t => simp [szQ, hd, kidsT, bndQ, cps, szS]
theorem bnd_ok {t : T} (h : okT t) : ∃ (l : Nat) (q : Int), bndQ (hd t) = ((l : Int), q) ∧ l ≤ 30 ∧ (q = -1 ∨ ((l : Int) ≤ q ∧ q ≤ 30)) := by
  cases t with
  | set a => exact ⟨1, 1, rfl, by omega, .inr (by omega)⟩
  | emp => exact ⟨1, 1, rfl, by omega, .inr (by omega)⟩
  | cat l => exact ⟨1, 1, rfl, by omega, .inr (by omega)⟩
  | alt l => exact ⟨1, 1, rfl, by omega, .inr (by omega)⟩
  | star t => exact ⟨0, -1, rfl, by omega, .inl rfl⟩
  | plus t => exact ⟨1, -1, rfl, by omega, .inl rfl⟩
  | opt t => exact ⟨0, 1, rfl, by omega, .inr (by omega)⟩
  | rep lo hi t => unfold okT at h; exact ⟨lo, hi, rfl, h.1, h.2.1⟩
theorem cps_le {l : Nat} {q : Int} (h : l ≤ 30) (k : q = -1 ∨ ((l : Int) ≤ q ∧ q ≤ 30)) : cps l q ≤ 30 := by unfold cps; split <;> omega
theorem sl.form {w : World} {v : Value} {l : List Nd} (h : sl w v l) : ∃ A n c, v = .slice A n c ∧ n = l.length ∧ sl w (.slice A n c) l := by
  obtain ⟨A, c, rfl, h1, h2⟩ := h
  exact ⟨A, _, c, rfl, rfl, A, c, rfl, h1, h2⟩
/-- The kids that are left. -/
theorem rest_kid {ts : List T} {j : Nat} {u : T} (h : ts[j]? = some u) (r : List Nd) : encs (ts.drop j) ++ r = enc u ++ (encs (ts.drop (j + 1)) ++ r) := by
  have hlt := (List.getElem?_eq_some_iff.1 h).1
  rw [List.drop_eq_getElem_cons hlt, encs, (List.getElem?_eq_some_iff.1 h).2, List.append_assoc]
theorem encs_drop : ∀ (ts : List T) (j : Nat), (encs (ts.drop j)).length ≤ (encs ts).length
  | [], j => by simp
  | t :: ts, 0 => by simp
  | t :: ts, j + 1 => by rw [List.drop_succ_cons, encs, List.length_append]; have := encs_drop ts j; omega
set_option maxHeartbeats 4000000 in
set_option maxRecDepth 100000 in
theorem size_all : ∀ (m : Nat) (t : T), (enc t).length ≤ m → m ≤ 500 → okT t → ∀ (r : List Nd) (v : Value) (w : World), (enc t ++ r).length ≤ 1000000 → sl w v (enc t ++ r) →
    Calls Try.prog 32 #[v] w fun e w' => ∃ v', e = .returned (.tuple #[.int .i64 (szQ t : Int), v']) ∧ sl w' v' r ∧ Below w.heap.size w w' := by
  intro m
  induction m with
  | zero => intro t hm; exact absurd hm (by have := enc_pos t; omega)
  | succ m ih =>
  intro t hm h5 hok r v w hlen hv
  obtain ⟨A, c, rfl, hc, h⟩ := hv
  have e0 : enc t ++ r = hd t :: (encs (kidsT t) ++ r) := by rw [enc_hd t]; rfl
  rw [e0] at h hc hlen ⊢
  obtain ⟨b, off, rfl, hb, hp⟩ := h 0 (hd t) rfl
  rw [Nat.zero_mul, Nat.add_zero] at hp
  obtain ⟨x0, x1, x2, x3, hs, q2, q3, q4, q5⟩ := hp.four
  obtain ⟨A', hcut, hA⟩ := cut_one (b := b) (off := off) (n := (hd t :: (encs (kidsT t) ++ r)).length) (c := c) (by simp) hc
  have HR := Lib.hid (nds_rest h hc hA)
  have q0 := hp.c0
  have q1 := hp.c1
  have q6 := hp.c6
  have q7 := hp.c7
  obtain ⟨N, hN⟩ : ∃ N, N = (hd t :: (encs (kidsT t) ++ r)).length := ⟨_, rfl⟩
  rw [← hN] at hcut ⊢
  have hN0 : 0 < N := by rw [hN]; simp
  have hN0' : (0 : Int) < (N : Int) := by omega
  have HNN : Hid (N - 1 = (encs (kidsT t) ++ r).length) := Lib.hid (by rw [hN]; simp)
  have HOK := Lib.hid hok
  have HP := Lib.hid hp
  have hk1 := hd_n t
  rw [hk1] at q1
  obtain ⟨K, hK⟩ : ∃ K, K = (kidsT t).length := ⟨_, rfl⟩
  rw [← hK] at q1
  have HKK := Lib.hid hK
  obtain ⟨kk, hkk⟩ : ∃ kk, kk = (hd t).k := ⟨_, rfl⟩
  obtain ⟨lo, hlo⟩ : ∃ lo, lo = (hd t).lo := ⟨_, rfl⟩
  obtain ⟨hi, hhi⟩ : ∃ hi, hi = (hd t).hi := ⟨_, rfl⟩
  rw [← hkk] at q0
  rw [← hlo] at q6
  rw [← hhi] at q7
  have HBB := Lib.hid hb
  have HIH : Hid (∀ (j : Nat) (u : T), (kidsT t)[j]? = some u → ∀ (r : List Nd) (v : Value) (w : World), (enc u ++ r).length ≤ 1000000 → sl w v (enc u ++ r) →
    Calls Try.prog 32 #[v] w fun e w' => ∃ v', e = .returned (.tuple #[.int .i64 (szQ u : Int), v']) ∧ sl w' v' r ∧ Below w.heap.size w w') := Lib.hid (fun j u hu r v w hl hv => ih u (by have := kid_less (List.mem_of_getElem? hu); omega) (by omega) (ok_kid hok (List.mem_of_getElem? hu)) r v w hl hv)
  have HHK := Lib.hid hkk
  have HHL := Lib.hid hlo
  have HHH := Lib.hid hhi
  have HLN : Hid ((encs (kidsT t) ++ r).length ≤ 1000000) := Lib.hid (by simp at hlen ⊢; omega)
  have ha : ∀ (o : Obj) (j : Nat) (x : Value), w.cell? ⟨b, j, none⟩ = some x → (w.alloc o).cell? ⟨b, j, none⟩ = some x := fun o j x hx => ((below_alloc w o).cell (p := ⟨b, j, none⟩) hb).trans hx
  obtain ⟨Zo, hZo⟩ : ∃ Zo, Zo = Obj.cells #[.int .i64 0, .int .i64 0, .int .u64 0, .int .u64 0, .int .u64 0, .int .u64 0, .int .i64 0, .int .i64 0] 79 := ⟨_, rfl⟩
  have z0 := ha Zo _ _ q0
  have z1 := ha Zo _ _ q1
  have z2 := ha Zo _ _ q2
  have z3 := ha Zo _ _ q3
  have z4 := ha Zo _ _ q4
  have z5 := ha Zo _ _ q5
  have z6 := ha Zo _ _ q6
  have z7 := ha Zo _ _ q7
  rw [hZo] at z0 z1 z2 z3 z4 z5 z6 z7
  clear hZo ha
  clear h hp hN hok e0 hA hk1 hK hkk hlo hhi hb ih hm h5 hlen hc
  go_enter Try.func32, Try.ntmps32
  go_upto_region 1 with fail
  go_region
  obtain ⟨w1, hw1⟩ : ∃ w1, w1 = (w.alloc (.cells #[.int .i64 kk, .int .i64 (K : Int), .int .u64 (x0 : Int), .int .u64 (x1 : Int), .int .u64 (x2 : Int), .int .u64 (x3 : Int), .int .i64 lo, .int .i64 hi] 79)).drew := ⟨_, rfl⟩
  have B1 : Hid (Below w.heap.size w w1) := Lib.hid (by rw [hw1]; exact below_drew (below_alloc _ _))
  have K1 : Hid (Blk w1 w.heap.size 79 #[.int .i64 kk, .int .i64 (K : Int), .int .u64 (x0 : Int), .int .u64 (x1 : Int), .int .u64 (x2 : Int), .int .u64 (x3 : Int), .int .i64 lo, .int .i64 hi]) := Lib.hid (by rw [hw1]; exact (Blk.fresh w _ _).draws 1)
  rw [← hw1]
  obtain ⟨M, hM⟩ : ∃ M, M = N - 1 := ⟨_, rfl⟩
  obtain ⟨cc, hcc⟩ : ∃ cc, cc = c - 1 := ⟨_, rfl⟩
  rw [← HNN.out, ← hM, ← hcc] at HR
  rw [← hM, ← hcc]
  have HR1 : Hid (sl w1 (.slice A' M cc) (encs ((kidsT t).drop 0) ++ r)) := Lib.hid (HR.out.below B1.out)
  have d1 := K1.out.cell 1
  have hKb : K ≤ 1000000 := by
    have h2 := encs_le (kidsT t)
    have h3 := HLN.out
    rw [List.length_append] at h3
    rw [HKK.out]
    omega
  have HSB : Hid (∀ j, szS ((kidsT t).take j) ≤ 1000000 * 1000000) := Lib.hid (fun j => by
    have h1 := szS_le ((kidsT t).take j)
    have h2 := encs_le (kidsT t)
    have h3 := HLN.out
    rw [List.length_append] at h3
    rw [List.length_take] at h1
    have h4 : 1000000 * min j (kidsT t).length ≤ 1000000 * 1000000 := Nat.mul_le_mul_left _ (by omega)
    omega)
  clear hw1 hM hcc HR hcut q0 q1 q2 q3 q4 q5 q6 q7 z0 z1 z2 z3 z4 z5 z6 z7 hN0 hN0'
  go_wp2
  go_loopw [5, 6, 7, 15] (fun s5 s6 _ s15 wr => ∃ (j S : Nat) (A5 : Option Addr) (n5 c5 : Nat), s5 = .slice A5 n5 c5 ∧ s6 = .int .i64 (S : Int) ∧ s15 = .int .i64 (j : Int) ∧ j ≤ K ∧ S ≤ 1000000 * 1000000 ∧ Hid (S = szS ((kidsT t).take j)) ∧ Hid (sl wr (.slice A5 n5 c5) (encs ((kidsT t).drop j) ++ r)) ∧ Hid (Below w1.heap.size w1 wr)) (fun _ _ _ s15 _ => K - (intOf s15).toNat)
  case atStart => exact ⟨0, 0, A', M, cc, rfl, rfl, rfl, by omega, by omega, Lib.hid (by simp [szS]), HR1, Lib.hid (Below.refl _ _)⟩
  case round =>
    obtain ⟨j, S, A5, n5, c5, rfl, rfl, rfl, hj, hS, HS, HSL, HB⟩ := hrel
    have KR := Lib.hid (K1.out.below HB.out)
    by_cases hjn : j < K
    · have hjn' : (j : Int) < (K : Int) := by omega
      obtain ⟨u, hu⟩ : ∃ u, (kidsT t)[j]? = some u := ⟨_, List.getElem?_eq_getElem (by rw [← HKK.out]; exact hjn)⟩
      have hrk := rest_kid hu r
      have HCA : Hid (Calls Try.prog 32 #[.slice A5 n5 c5] wr fun e w' => ∃ v', e = .returned (.tuple #[.int .i64 (szQ u : Int), v']) ∧ sl w' v' (encs ((kidsT t).drop (j + 1)) ++ r) ∧ Below wr.heap.size wr w') := Lib.hid (HIH.out j u hu _ _ wr (by rw [← hrk, List.length_append]; have h1 := encs_drop (kidsT t) j; have h2 := HLN.out; rw [List.length_append] at h2; omega) (by rw [← hrk]; exact HSL.out))
      have hS2 : Hid (S + szQ u = szS ((kidsT t).take (j + 1))) := Lib.hid (by rw [szS_snoc hu, HS.out])
      have hS3 : S + szQ u ≤ 1000000 * 1000000 := by rw [hS2.out]; exact HSB.out _
      obtain ⟨z, hz⟩ : ∃ z, z = szQ u := ⟨_, rfl⟩
      rw [← hz] at HCA hS2 hS3
      clear hu hrk hz hjn
      go_wp2_with (go_at_call 32; refine HCA.out.mono ?_; rintro e w3 ⟨v3, rfl, h3, k3⟩; obtain ⟨A3, n3, c3, rfl, hn3, h3⟩ := sl.form h3; have H3 := Lib.hid h3; have B3 := Lib.hid (grows HB.out k3); clear h3 k3 hn3)
      go_roundw
      case rel => exact ⟨j + 1, S + z, A3, n3, c3, rfl, by go_num, by go_num, by omega, hS3, hS2, H3, B3⟩
      case measure => simp [intOf]; omega
    · obtain rfl : j = K := by omega
      have hjn' : ¬ (j : Int) < (j : Int) := by omega
      have HSL' : Hid (sl wr (.slice A5 n5 c5) r) := Lib.hid (by have := HSL.out; rw [HKK.out, List.drop_length] at this; exact this)
      have HSS : Hid (S = szS (kidsT t)) := Lib.hid (by rw [HS.out, HKK.out, List.take_length])
      have HBW := Lib.hid (grows B1.out HB.out)
      have e0 := KR.out.cell 0
      by_cases hk3 : kk = 3
      · have HQ : Hid ((szQ t : Int) = min (S : Int) 1000000) := Lib.hid (by rw [sz_hd, if_pos (by rw [← HHK.out]; exact hk3), HSS.out]; omega)
        subst hk3
        clear hjn
        go_wp2
        all_goals
          go_ret2
          refine ⟨_, ?_, HSL'.out, HBW.out⟩
          rw [HQ.out]
          first | rfl | (rw [show min (S : Int) 1000000 = (S : Int) by omega]; rfl) | (rw [show min (S : Int) 1000000 = 1000000 by omega]; rfl)
      · obtain ⟨l, q, hlq, hl30, hq30⟩ := bnd_ok HOK.out
        have hbq : bndQ ⟨kk, (j : Int), [], lo, hi⟩ = ((l : Int), q) := by rw [← hlq]; unfold bndQ; rw [← HHK.out, ← HHL.out, ← HHH.out]
        have HBD : Hid (∀ w : World, Calls Try.prog 50 #[.agg #[.int .i64 kk, .int .i64 (j : Int), .int .u64 (x0 : Int), .int .u64 (x1 : Int), .int .u64 (x2 : Int), .int .u64 (x3 : Int), .int .i64 lo, .int .i64 hi]] w fun e w' => e = .returned (.tuple #[.int .i64 (l : Int), .int .i64 q]) ∧ Below w.heap.size w w') := Lib.hid (fun w => by have k := bounds_any (k := kk) (n := (j : Int)) (lo := lo) (hi := hi) (x0 := (x0 : Int)) (x1 := (x1 : Int)) (x2 := (x2 : Int)) (x3 := (x3 : Int)) w; rw [hbq] at k; exact k)
        obtain ⟨C, hC⟩ : ∃ C, C = cps l q := ⟨_, rfl⟩
        have HCP : Hid (∀ w : World, Calls Try.prog 55 #[.int .i64 (l : Int), .int .i64 q] w fun e w' => e = .returned (.int .i64 (C : Int)) ∧ w' = w) := Lib.hid (fun w => by rw [hC]; exact copies_any (by omega) (hq30.elim .inl (fun h => .inr (by omega))) w)
        have hC30 : C ≤ 30 := by rw [hC]; exact cps_le hl30 hq30
        obtain ⟨P, hP⟩ : ∃ P, P = C * S := ⟨_, rfl⟩
        have hPI : (C : Int) * (S : Int) = (P : Int) := by rw [hP]; simp
        have hP3 : P ≤ 30 * (1000000 * 1000000) := by rw [hP]; exact Nat.mul_le_mul hC30 hS
        have HQ : Hid ((szQ t : Int) = min (2 + (P : Int)) 1000000) := Lib.hid (by rw [sz_hd, if_neg (by rw [← HHK.out]; exact hk3), hlq, hP, HSS.out, hC]; simp only [Int.toNat_natCast]; omega)
        have hk3' : (kk != 3) = true := by simp; exact hk3
        have e1 := KR.out.cell 1
        have e2 := KR.out.cell 2
        have e3 := KR.out.cell 3
        have e4 := KR.out.cell 4
        have e5 := KR.out.cell 5
        have e6 := KR.out.cell 6
        have e7 := KR.out.cell 7
        clear hjn hlq hbq hl30 hq30 hC hP hk3 hC30
        go_wp2_with (first | (go_at_call 50; refine (HBD.out _).mono ?_; rintro e w5 ⟨rfl, k5⟩; have B5 := Lib.hid k5; clear k5) | (go_at_call 55; refine (HCP.out _).mono ?_; rintro e w6 ⟨rfl, rfl⟩))
        all_goals
          go_ret2
          refine ⟨_, ?_, HSL'.out.below B5.out, grows HBW.out B5.out⟩
          rw [HQ.out]
          first | rfl | (rw [show min (2 + (P : Int)) 1000000 = 2 + (P : Int) by omega]; rfl) | (rw [show min (2 + (P : Int)) 1000000 = 1000000 by omega]; rfl)
end Go.Proofs.Ythjelilmlbbalaa.Dt
namespace Go.Proofs.Ythjelilmlbbalaa.Dq
open Go.RowKit Go.Proofs.Ythjelilmlbbalaa.Vm Go.Proofs.Ythjelilmlbbalaa.Vo Go.Proofs.Ythjelilmlbbalaa.Bw Go.Proofs.Ythjelilmlbbalaa.Na Go.Proofs.Ythjelilmlbbalaa.Ko Go.Proofs.Ythjelilmlbbalaa.Tm Go.Proofs.Ythjelilmlbbalaa.Ta Go.Proofs.Ythjelilmlbbalaa.Tb Go.Proofs.Ythjelilmlbbalaa.Tf Go.Proofs.Ythjelilmlbbalaa.Rm Go.Proofs.Ythjelilmlbbalaa.Ra Go.Proofs.Ythjelilmlbbalaa.Ed Go.Proofs.Ythjelilmlbbalaa.An Go.Proofs.Ythjelilmlbbalaa.Aa Go.Proofs.Ythjelilmlbbalaa.Ar Go.Proofs.Ythjelilmlbbalaa.Da Go.Proofs.Ythjelilmlbbalaa.Db Go.Proofs.Ythjelilmlbbalaa.Dm Go.Proofs.Ythjelilmlbbalaa.Dn Go.Proofs.Ythjelilmlbbalaa.De Go.Proofs.Ythjelilmlbbalaa.Dc Go.Proofs.Ythjelilmlbbalaa.Df Go.Proofs.Ythjelilmlbbalaa.Dj Go.Proofs.Ythjelilmlbbalaa.Dk Go.Proofs.Ythjelilmlbbalaa.Dl Go.Proofs.Ythjelilmlbbalaa.Do Go.Proofs.Ythjelilmlbbalaa.Dp

theorem ent_single : Enters Try.prog 63 := enters_of Try.func63 (by kernel_rfl) rfl
theorem ent_chain : Enters Try.prog 64 := enters_of Try.func64 (by kernel_rfl) rfl
theorem ent_choice : Enters Try.prog 65 := enters_of Try.func65 (by kernel_rfl) rfl
theorem ent_rep : Enters Try.prog 66 := enters_of Try.func66 (by kernel_rfl) rfl
/-- A plan that has been made: its blocks are new. -/
def planN (B : Nat) (w : World) (g : Nat) (t : T) (v : Value) : Prop := ∃ Z, plan w g t v Z ∧ ∀ i, Z i → B ≤ i
theorem blk_cells {w u : World} {Z : Nat → Prop} {b : Nat} {t : TypeId} {cs : Array Value} (h : Blk w b t cs) (hu : ∀ i, Z i → u.heap[i]? = w.heap[i]?) (hz : Z b) (j : Nat) : u.cell? ⟨b, j, none⟩ = cs[j]? := (cell_same hu hz).trans (h.cell j)
/-- A plan of one edge. -/
theorem plan_single {w : World} {g bn be : Nat} {t : T} {f : Bool} {x0 x1 x2 x3 : Nat} {z : Int} (hs : isSet [x0, x1, x2, x3]) (ht : ∀ E, bT t E = ⟨jn (E ++ [[], []]) E.length (E.length + 1) f [x0, x1, x2, x3], E.length, E.length + 1⟩) (hz : szU t = 2)
    (hn : Blk w bn 52 #[.pointer (some ⟨g, 0, none⟩)]) (he : Blk w be 66 #[.int .i64 z, .bool f, .int .u64 (x0 : Int), .int .u64 (x1 : Int), .int .u64 (x2 : Int), .int .u64 (x3 : Int)]) :
    plan w g t (.func (.func 63) #[] #[.pointer (some ⟨bn, 0, none⟩), .pointer (some ⟨be, 0, none⟩)]) (fun i => i = bn ∨ i = be) where
  c := by
    refine ⟨_, _, rfl, ent_single, fun u S E F R hu hS hf hR hE hm => ?_⟩
    have l1 : bn < u.heap.size := by have := hu bn (.inl rfl); have h2 := hn; unfold Blk at h2; rw [h2] at this; exact (Array.getElem?_eq_some_iff.1 this).1
    have l2 : be < u.heap.size := by have := hu be (.inr rfl); have h2 := he; unfold Blk at h2; rw [h2] at this; exact (Array.getElem?_eq_some_iff.1 this).1
    have k := single_any (z := z) (f := f) hs l1 l2 (blk_cells hn hu (.inl rfl) 0) (blk_cells he hu (.inr rfl) 0) (blk_cells he hu (.inr rfl) 1) (blk_cells he hu (.inr rfl) 2) (blk_cells he hu (.inr rfl) 3) (blk_cells he hu (.inr rfl) 4) (blk_cells he hu (.inr rfl) 5) (hS _ (.inl rfl)) (hS _ (.inr rfl)) (by omega) hR (by omega) (Lib.hid hf)
    rw [ht, hz]
    exact k
  lt := fun i hi => by
    rcases hi with rfl | rfl
    · exact hn.lt
    · exact he.lt
theorem plan_chain {w : World} {g bn bk kb c : Nat} {V : Nat → Value} {Z : Nat → Prop} {l : List T} (h2 : 2 ≤ l.length) (hok : okTs l) (hc : l.length ≤ c) (hln : l.length ≤ 100000) (K : kidz w g l kb V Z) (hn : Blk w bn 52 #[.pointer (some ⟨g, 0, none⟩)]) (hk : Blk w bk 86 #[.slice (some ⟨kb, 0, none⟩) l.length c]) :
    plan w g (.cat l) (.func (.func 64) #[] #[.pointer (some ⟨bk, 0, none⟩), .pointer (some ⟨bn, 0, none⟩)]) (fun i => Z i ∨ i = bn ∨ i = bk) where
  c := by
    refine ⟨_, _, rfl, ent_chain, fun u S E F R hu hS hf hR hE hm => ?_⟩
    have hsz : ∀ i, (Z i ∨ i = bn ∨ i = bk) → i < u.heap.size := fun i hi => by
      have h1 := hu i hi
      have h3 : i < w.heap.size := by
        rcases hi with hi | rfl | rfl
        · exact K.lt i hi
        · exact hn.lt
        · exact hk.lt
      rw [Array.getElem?_eq_getElem h3] at h1
      exact (Array.getElem?_eq_some_iff.1 h1).1
    match l, h2, hok, hc, hln, K, hk, hE, hm with
    | t0 :: l, h2, hok, hc, hln, K, hk, hE, hm =>
      unfold okTs at hok
      have hp : ∀ (j : Nat) (t : T), (t0 :: l)[j]? = some t → plan u g t (V j) (fun i => Z i ∨ i = bn ∨ i = bk) := fun j t ht => by
        obtain ⟨k, caps, e, h1, h2⟩ := (K.p j t ht).c
        exact ⟨⟨k, caps, e, h1, fun u' S E F R hu' hS' => h2 u' S E F R (fun i hi => (hu' i (.inl hi)).trans (hu i (.inl hi))) (fun i hi => hS' i (.inl hi))⟩, hsz⟩
      have K2 : kidz u g (t0 :: l) kb V (fun i => Z i ∨ i = bn ∨ i = bk) := ⟨fun j hj => (cell_same hu (.inl K.zk)).trans (K.c j hj), hp, .inl K.zk, hsz⟩
      have k := chain_any (c := c) (bk := bk) (bn := bn) hok.1 hok.2 (by simp at h2; omega) (by simp at hc; omega) (by simp at hln; omega) (Lib.hid K2) (.inr (.inr rfl)) (.inr (.inl rfl)) (blk_cells hk hu (.inr (.inr rfl)) 0) (blk_cells hn hu (.inr (.inl rfl)) 0) hS (by unfold szU at hE; exact hE) (by unfold szU at hm; exact hm) hR (Lib.hid hf)
      unfold bT szU
      exact k
  lt := fun i hi => by
    rcases hi with hi | rfl | rfl
    · exact K.lt i hi
    · exact hn.lt
    · exact hk.lt
theorem plan_choice {w : World} {g bn bk kb c : Nat} {V : Nat → Value} {Z : Nat → Prop} {l : List T} (hok : okTs l) (hc : l.length ≤ c) (hln : l.length ≤ 100000) (K : kidz w g l kb V Z) (hn : Blk w bn 52 #[.pointer (some ⟨g, 0, none⟩)]) (hk : Blk w bk 86 #[.slice (some ⟨kb, 0, none⟩) l.length c]) :
    plan w g (.alt l) (.func (.func 65) #[] #[.pointer (some ⟨bn, 0, none⟩), .pointer (some ⟨bk, 0, none⟩)]) (fun i => Z i ∨ i = bn ∨ i = bk) where
  c := by
    refine ⟨_, _, rfl, ent_choice, fun u S E F R hu hS hf hR hE hm => ?_⟩
    have hsz : ∀ i, (Z i ∨ i = bn ∨ i = bk) → i < u.heap.size := fun i hi => by
      have h1 := hu i hi
      have h3 : i < w.heap.size := by
        rcases hi with hi | rfl | rfl
        · exact K.lt i hi
        · exact hn.lt
        · exact hk.lt
      rw [Array.getElem?_eq_getElem h3] at h1
      exact (Array.getElem?_eq_some_iff.1 h1).1
    have hp : ∀ (j : Nat) (t : T), l[j]? = some t → plan u g t (V j) (fun i => Z i ∨ i = bn ∨ i = bk) := fun j t ht => by
      obtain ⟨k, caps, e, h1, h2⟩ := (K.p j t ht).c
      exact ⟨⟨k, caps, e, h1, fun u' S E F R hu' hS' => h2 u' S E F R (fun i hi => (hu' i (.inl hi)).trans (hu i (.inl hi))) (fun i hi => hS' i (.inl hi))⟩, hsz⟩
    have K2 : kidz u g l kb V (fun i => Z i ∨ i = bn ∨ i = bk) := ⟨fun j hj => (cell_same hu (.inl K.zk)).trans (K.c j hj), hp, .inl K.zk, hsz⟩
    have k := choice_any (c := c) (bk := bk) (bn := bn) hok hc hln (Lib.hid K2) (.inr (.inr rfl)) (.inr (.inl rfl)) (blk_cells hk hu (.inr (.inr rfl)) 0) (blk_cells hn hu (.inr (.inl rfl)) 0) hS (by unfold szU at hE; exact hE) (by unfold szU at hm; exact hm) hR (Lib.hid hf)
    unfold bT szU
    exact k
  lt := fun i hi => by
    rcases hi with hi | rfl | rfl
    · exact K.lt i hi
    · exact hn.lt
    · exact hk.lt
/-- A plan of a repeat. -/
theorem plan_rep {w : World} {g bn bl bh bp lo : Nat} {hi : Int} {v : Value} {Z : Nat → Prop} {t t' : T} (hok : okT t) (hlo : lo ≤ 1000000) (hhi : hi = -1 ∨ ((lo : Int) ≤ hi ∧ hi ≤ 1000000)) (ht : ∀ E, bT t' E = rep (fun E => bT t E) lo hi E) (hsz' : szU t' = 2 + cps lo hi * szU t) (K : plan w g t v Z)
    (hn : Blk w bn 52 #[.pointer (some ⟨g, 0, none⟩)]) (hl : Blk w bl 3 #[.int .i64 (lo : Int)]) (hh : Blk w bh 3 #[.int .i64 hi]) (hp : Blk w bp 54 #[v]) :
    plan w g t' (.func (.func 66) #[] #[.pointer (some ⟨bn, 0, none⟩), .pointer (some ⟨bl, 0, none⟩), .pointer (some ⟨bh, 0, none⟩), .pointer (some ⟨bp, 0, none⟩)]) (fun i => Z i ∨ i = bn ∨ i = bl ∨ i = bh ∨ i = bp) where
  c := by
    refine ⟨_, _, rfl, ent_rep, fun u S E F R hu hS hf hR hE hm => ?_⟩
    have hlt : ∀ i, (Z i ∨ i = bn ∨ i = bl ∨ i = bh ∨ i = bp) → i < w.heap.size := fun i hi => by
      rcases hi with hi | rfl | rfl | rfl | rfl
      · exact K.lt i hi
      · exact hn.lt
      · exact hl.lt
      · exact hh.lt
      · exact hp.lt
    have hsz : ∀ i, (Z i ∨ i = bn ∨ i = bl ∨ i = bh ∨ i = bp) → i < u.heap.size := fun i hi => by
      have h1 := hu i hi
      rw [Array.getElem?_eq_getElem (hlt i hi)] at h1
      exact (Array.getElem?_eq_some_iff.1 h1).1
    have K2 : plan u g t v (fun i => Z i ∨ i = bn ∨ i = bl ∨ i = bh ∨ i = bp) := by
      obtain ⟨k, caps, e, h1, h2⟩ := K.c
      exact ⟨⟨k, caps, e, h1, fun u' S E F R hu' hS' => h2 u' S E F R (fun i hi => (hu' i (.inl hi)).trans (hu i (.inl hi))) (fun i hi => hS' i (.inl hi))⟩, hsz⟩
    have cl : ∀ (b : Nat) (ty : TypeId) (x : Value), Blk w b ty #[x] → (Z b ∨ b = bn ∨ b = bl ∨ b = bh ∨ b = bp) → ∀ (w' : World) (S' : Nat → Prop), goes S S' u w' → w'.cell? ⟨b, 0, none⟩ = some x := fun b ty x hb hi w' S' hg => (hg.cell (hS _ hi) (hsz _ hi)).trans (blk_cells hb hu hi 0)
    rw [ht, hsz'] at *
    have k := rep_any (bn := bn) (bl := bl) (bh := bh) (bp := bp) hok hlo hhi (plan_calls K2 hS) (fun w' S' hg => ⟨cl bn _ _ hn (.inr (.inl rfl)) w' S' hg, cl bl _ _ hl (.inr (.inr (.inl rfl))) w' S' hg, cl bh _ _ hh (.inr (.inr (.inr (.inl rfl)))) w' S' hg, cl bp _ _ hp (.inr (.inr (.inr (.inr rfl)))) w' S' hg⟩) hE hm hR (Lib.hid hf)
    have e1 : (rep (fun E => bT t E) lo hi E).i = E.length := rfl
    have e2 : (rep (fun E => bT t E) lo hi E).o = E.length + 1 := rfl
    rw [e1, e2]
    exact k
  lt := fun i hi => by
    rcases hi with hi | rfl | rfl | rfl | rfl
    · exact K.lt i hi
    · exact hn.lt
    · exact hl.lt
    · exact hh.lt
    · exact hp.lt
end Go.Proofs.Ythjelilmlbbalaa.Dq
namespace Go.Proofs.Ythjelilmlbbalaa.Dr
open Go.RowKit Go.Proofs.Ythjelilmlbbalaa.Vm Go.Proofs.Ythjelilmlbbalaa.Vo Go.Proofs.Ythjelilmlbbalaa.Bw Go.Proofs.Ythjelilmlbbalaa.Na Go.Proofs.Ythjelilmlbbalaa.Ko Go.Proofs.Ythjelilmlbbalaa.Tm Go.Proofs.Ythjelilmlbbalaa.Ta Go.Proofs.Ythjelilmlbbalaa.Tb Go.Proofs.Ythjelilmlbbalaa.Tf Go.Proofs.Ythjelilmlbbalaa.Rm Go.Proofs.Ythjelilmlbbalaa.Ra Go.Proofs.Ythjelilmlbbalaa.Ed Go.Proofs.Ythjelilmlbbalaa.An Go.Proofs.Ythjelilmlbbalaa.Aa Go.Proofs.Ythjelilmlbbalaa.Da Go.Proofs.Ythjelilmlbbalaa.Dm Go.Proofs.Ythjelilmlbbalaa.Df Go.Proofs.Ythjelilmlbbalaa.Dq

theorem fresh2 (w : World) (t1 t2 : TypeId) (c1 c2 : Array Value) : Blk ((w.alloc (.cells c1 t1)).alloc (.cells c2 t2)) w.heap.size t1 c1 ∧ Blk ((w.alloc (.cells c1 t1)).alloc (.cells c2 t2)) (w.heap.size + 1) t2 c2 := by
  refine ⟨(Blk.fresh w t1 c1).below (below_alloc _ _), ?_⟩
  have := Blk.fresh (w.alloc (.cells c1 t1)) t2 c2
  rw [size_alloc] at this
  exact this
set_option maxRecDepth 100000 in
theorem single_mk {g : Nat} {z : Int} {f : Bool} {x0 x1 x2 x3 : Int} (w : World) : Calls Try.prog 47 #[.pointer (some ⟨g, 0, none⟩), .agg #[.int .i64 z, .bool f, .int .u64 x0, .int .u64 x1, .int .u64 x2, .int .u64 x3]] w fun e w' =>
    ∃ bn be, e = .returned (.func (.func 63) #[] #[.pointer (some ⟨bn, 0, none⟩), .pointer (some ⟨be, 0, none⟩)]) ∧ Blk w' bn 52 #[.pointer (some ⟨g, 0, none⟩)] ∧ Blk w' be 66 #[.int .i64 z, .bool f, .int .u64 x0, .int .u64 x1, .int .u64 x2, .int .u64 x3] ∧ (w.heap.size ≤ bn ∧ w.heap.size ≤ be) ∧ Below w.heap.size w w' := by
  have hmf : ∀ (fn : Fn) (first cap : Array Value) (w : World), (Instr.makeFunc fn first cap).run Try.prog w = .ok (.func fn first cap) w := fun _ _ _ _ => rfl
  go_enter Try.func47, Try.ntmps47
  go_wp2
  go_ret
  obtain ⟨h1, h2⟩ := fresh2 w 52 66 #[.pointer (some ⟨g, 0, none⟩)] #[.int .i64 z, .bool f, .int .u64 x0, .int .u64 x1, .int .u64 x2, .int .u64 x3]
  exact ⟨_, _, rfl, h1, h2, ⟨by omega, by omega⟩, grows (below_alloc _ _) (below_alloc _ _)⟩
set_option maxRecDepth 100000 in
theorem chain_mk {g kb n c : Nat} (w : World) : Calls Try.prog 48 #[.pointer (some ⟨g, 0, none⟩), .slice (some ⟨kb, 0, none⟩) n c] w fun e w' =>
    ∃ bn bk, e = .returned (.func (.func 64) #[] #[.pointer (some ⟨bk, 0, none⟩), .pointer (some ⟨bn, 0, none⟩)]) ∧ Blk w' bn 52 #[.pointer (some ⟨g, 0, none⟩)] ∧ Blk w' bk 86 #[.slice (some ⟨kb, 0, none⟩) n c] ∧ (w.heap.size ≤ bn ∧ w.heap.size ≤ bk) ∧ Below w.heap.size w w' := by
  have hmf : ∀ (fn : Fn) (first cap : Array Value) (w : World), (Instr.makeFunc fn first cap).run Try.prog w = .ok (.func fn first cap) w := fun _ _ _ _ => rfl
  go_enter Try.func48, Try.ntmps48
  go_wp2
  go_ret
  obtain ⟨h1, h2⟩ := fresh2 w 52 86 #[.pointer (some ⟨g, 0, none⟩)] #[.slice (some ⟨kb, 0, none⟩) n c]
  exact ⟨_, _, rfl, h1, h2, ⟨by omega, by omega⟩, grows (below_alloc _ _) (below_alloc _ _)⟩
set_option maxRecDepth 100000 in
theorem choice_mk {g kb n c : Nat} (w : World) : Calls Try.prog 49 #[.pointer (some ⟨g, 0, none⟩), .slice (some ⟨kb, 0, none⟩) n c] w fun e w' =>
    ∃ bn bk, e = .returned (.func (.func 65) #[] #[.pointer (some ⟨bn, 0, none⟩), .pointer (some ⟨bk, 0, none⟩)]) ∧ Blk w' bn 52 #[.pointer (some ⟨g, 0, none⟩)] ∧ Blk w' bk 86 #[.slice (some ⟨kb, 0, none⟩) n c] ∧ (w.heap.size ≤ bn ∧ w.heap.size ≤ bk) ∧ Below w.heap.size w w' := by
  have hmf : ∀ (fn : Fn) (first cap : Array Value) (w : World), (Instr.makeFunc fn first cap).run Try.prog w = .ok (.func fn first cap) w := fun _ _ _ _ => rfl
  go_enter Try.func49, Try.ntmps49
  go_wp2
  go_ret
  obtain ⟨h1, h2⟩ := fresh2 w 52 86 #[.pointer (some ⟨g, 0, none⟩)] #[.slice (some ⟨kb, 0, none⟩) n c]
  exact ⟨_, _, rfl, h1, h2, ⟨by omega, by omega⟩, grows (below_alloc _ _) (below_alloc _ _)⟩
set_option maxRecDepth 100000 in
theorem repetition_mk {g k : Nat} {caps : Array Value} {lo hi : Int} (w : World) : Calls Try.prog 51 #[.pointer (some ⟨g, 0, none⟩), .func (.func k) #[] caps, .int .i64 lo, .int .i64 hi] w fun e w' =>
    ∃ bn bl bh bp, e = .returned (.func (.func 66) #[] #[.pointer (some ⟨bn, 0, none⟩), .pointer (some ⟨bl, 0, none⟩), .pointer (some ⟨bh, 0, none⟩), .pointer (some ⟨bp, 0, none⟩)]) ∧ Blk w' bn 52 #[.pointer (some ⟨g, 0, none⟩)] ∧ Blk w' bl 3 #[.int .i64 lo] ∧ Blk w' bh 3 #[.int .i64 hi] ∧ Blk w' bp 54 #[.func (.func k) #[] caps] ∧ (w.heap.size ≤ bn ∧ w.heap.size ≤ bl ∧ w.heap.size ≤ bh ∧ w.heap.size ≤ bp) ∧ Below w.heap.size w w' := by
  have hmf : ∀ (fn : Fn) (first cap : Array Value) (w : World), (Instr.makeFunc fn first cap).run Try.prog w = .ok (.func fn first cap) w := fun _ _ _ _ => rfl
  go_enter Try.func51, Try.ntmps51
  go_wp2
  go_ret
  obtain ⟨h1, h2⟩ := fresh2 w 52 54 #[.pointer (some ⟨g, 0, none⟩)] #[.func (.func k) #[] caps]
  obtain ⟨w2, hw2⟩ : ∃ w2, w2 = (w.alloc (.cells #[.pointer (some ⟨g, 0, none⟩)] 52)).alloc (.cells #[.func (.func k) #[] caps] 54) := ⟨_, rfl⟩
  have hs : w2.heap.size = w.heap.size + 2 := by rw [hw2, size_alloc, size_alloc]
  rw [← hw2] at h1 h2
  obtain ⟨h3, h4⟩ := fresh2 w2 3 3 #[.int .i64 lo] #[.int .i64 hi]
  have B : Below w2.heap.size w2 ((w2.alloc (.cells #[.int .i64 lo] 3)).alloc (.cells #[.int .i64 hi] 3)) := grows (below_alloc _ _) (below_alloc _ _)
  have B0 : Below w.heap.size w w2 := by rw [hw2]; exact grows (below_alloc _ _) (below_alloc _ _)
  rw [hs] at h3 h4
  refine ⟨_, _, _, _, rfl, ?_, ?_, ?_, ?_, ⟨by omega, by omega, by omega, by omega⟩, ?_⟩
  · rw [← hw2]; exact h1.below B
  · rw [← hw2]; exact h3
  · rw [← hw2]; exact h4
  · rw [← hw2]; exact h2.below B
  · rw [← hw2]; exact grows B0 B
end Go.Proofs.Ythjelilmlbbalaa.Dr
namespace Go.Proofs.Ythjelilmlbbalaa.Dv
open Go.RowKit Go.Proofs.Ythjelilmlbbalaa.Vm Go.Proofs.Ythjelilmlbbalaa.Vo Go.Proofs.Ythjelilmlbbalaa.Bw Go.Proofs.Ythjelilmlbbalaa.Na Go.Proofs.Ythjelilmlbbalaa.Ko Go.Proofs.Ythjelilmlbbalaa.Tm Go.Proofs.Ythjelilmlbbalaa.Ta Go.Proofs.Ythjelilmlbbalaa.Tb Go.Proofs.Ythjelilmlbbalaa.Tf Go.Proofs.Ythjelilmlbbalaa.Rm Go.Proofs.Ythjelilmlbbalaa.Rv Go.Proofs.Ythjelilmlbbalaa.Ra Go.Proofs.Ythjelilmlbbalaa.Rn Go.Proofs.Ythjelilmlbbalaa.Ed Go.Proofs.Ythjelilmlbbalaa.An Go.Proofs.Ythjelilmlbbalaa.Ap Go.Proofs.Ythjelilmlbbalaa.Aj Go.Proofs.Ythjelilmlbbalaa.Da Go.Proofs.Ythjelilmlbbalaa.Dm Go.Proofs.Ythjelilmlbbalaa.De Go.Proofs.Ythjelilmlbbalaa.Df Go.Proofs.Ythjelilmlbbalaa.Dk Go.Proofs.Ythjelilmlbbalaa.Dl Go.Proofs.Ythjelilmlbbalaa.Dp Go.Proofs.Ythjelilmlbbalaa.Dq Go.Proofs.Ythjelilmlbbalaa.Dr Go.Proofs.Ythjelilmlbbalaa.Ds Go.Proofs.Ythjelilmlbbalaa.Dt

/-- Cells by their places. -/
def pls (n : Nat) (f : Nat → Value) : Array Value := Array.ofFn (n := n) fun i => f i.val
theorem pls_get {n : Nat} (f : Nat → Value) {i : Nat} (h : i < n) : (pls n f)[i]? = some (f i) := by simp [pls, h]
theorem pls_congr {n : Nat} {f g : Nat → Value} (h : ∀ i, i < n → f i = g i) : pls n f = pls n g := by
  apply Array.ext
  · simp [pls]
  · intro i h1 h2
    simp [pls] at h1
    simp [pls, h i h1]
theorem pls_set (n : Nat) (f : Nat → Value) (k : Nat) (v : Value) : (pls n f).setIfInBounds k v = pls n (fun i => if i = k then v else f i) := by
  apply Array.ext
  · simp [pls]
  · intro i h1 h2
    have hi : i < (pls n f).size := by simpa using h1
    rw [Array.getElem_setIfInBounds hi]
    by_cases h : i = k
    · subst h; simp [pls]
    · rw [if_neg (fun e => h e.symm)]; simp [pls, h]
theorem infoP : (Try.prog.info? 54).map (fun i => (i.zero, i.size, i.bytes)) = some (some .nilFunc, 1, 8) := by kernel_rfl
theorem made_pl (n : Nat) (hn : n ≤ 1000000) (u : World) : (Instr.makeSlice 86 (.int .i64 (n : Int)) (.int .i64 (n : Int))).run Try.prog u = .ok (.slice (some ⟨u.heap.size, 0, none⟩) n n) (u.alloc (.cells (pls n (fun _ => .nilFunc)) 54)) := by
  obtain ⟨i0, hi, hz0, hz1, hz2⟩ := info_parts infoP
  have h := run_make (P := Try.prog) u 86 54 i0 .nilFunc Try.underlying86 hi hz0 .i64 .i64 (n : Int) (n : Int) (by omega) (by omega) (by rw [hz2]; omega) (by omega)
  have e : madeCells Value.nilFunc.cells (n * i0.size) = pls n (fun _ => .nilFunc) := by
    rw [hz1]
    apply Array.ext
    · simp [madeCells, pls]
    · intro j h1 h2
      simp [madeCells, pls, Value.cells]
      simp [Nat.mod_one]
  simp only [Int.toNat_natCast, e] at h
  exact h
/-- Kids' plans on their way. -/
structure half (w0 : World) (w : World) (g kb K j : Nat) (ts : List T) (V : Nat → Value) (Z : Nat → Prop) : Prop where
  b : Blk w kb 54 (pls K (fun i => if i < j then V i else .nilFunc))
  p : ∀ (i : Nat) (t : T), i < j → ts[i]? = some t → plan w g t (V i) Z
  z : ∀ i, Z i → w0.heap.size ≤ i ∧ i < w.heap.size
  k : kb < w0.heap.size
  o : Only (fun i => i = kb) w0 w
theorem half_next {w0 w w3 : World} {g kb K j : Nat} {ts : List T} {V : Nat → Value} {Z Y : Nat → Prop} {t : T} {v : Value} (h : half w0 w g kb K j ts V Z) (ht : ts[j]? = some t) (hp : plan w3 g t v Y) (hy : ∀ i, Y i → w.heap.size ≤ i) (k : Below w.heap.size w w3) (hsz : w0.heap.size ≤ w.heap.size) :
    half w0 (w3.setCell ⟨kb, j, none⟩ v) g kb K (j + 1) ts (fun i => if i = j then v else V i) (fun i => Z i ∨ Y i) := by
  have hs : (w3.setCell ⟨kb, j, none⟩ v).heap.size = w3.heap.size := by simp [World.setCell]
  have hne : ∀ i, i ≠ kb → (w3.setCell ⟨kb, j, none⟩ v).heap[i]? = w3.heap[i]? := fun i hi => Below.heap_setCell _ _ _ _ (fun e => hi e)
  have hk := h.k
  have hzl : ∀ i, (Z i ∨ Y i) → w0.heap.size ≤ i ∧ i < (w3.setCell ⟨kb, j, none⟩ v).heap.size := fun i hi => by
    rw [hs]
    rcases hi with hi | hi
    · have := h.z i hi; have := k.size; omega
    · have := hy i hi; have := hp.lt i hi; omega
  refine ⟨?_, fun i t' hi ht' => ?_, hzl, hk, (h.o.trans (Only.of_below k)).trans ((Only.refl (fun i => i = kb) w3).store (p := ⟨kb, j, none⟩) (.inl rfl) _)⟩
  · have := (h.b.below k).store j v
    rw [pls_set] at this
    rw [pls_congr (g := fun i => if i = j then v else if i < j then V i else .nilFunc) (fun i _ => ?_)]
    · exact this
    · by_cases e : i = j
      · rw [if_pos e, if_pos e, if_pos (by omega)]
      · rw [if_neg e, if_neg e]
        by_cases e2 : i < j
        · rw [if_pos e2, if_pos (by omega)]
        · rw [if_neg e2, if_neg (by omega)]
  · by_cases e : i = j
    · subst e
      rw [if_pos rfl]
      rw [ht] at ht'
      obtain rfl := Option.some.inj ht'
      exact (hp.same (by rw [hs]; omega) (fun q hq => hne q (by have := hy q hq; omega))).mono (fun q hq => .inr hq) (fun q hq => (hzl q hq).2)
    · rw [if_neg e]
      have k1 := (h.p i t' (by omega) ht').below k
      exact (k1.same (by rw [hs]; omega) (fun q hq => hne q (by have := h.z q hq; omega))).mono (fun q hq => .inl hq) (fun q hq => (hzl q hq).2)
theorem half_all {w0 w w' : World} {g kb K : Nat} {ts : List T} {V : Nat → Value} {Z : Nat → Prop} (h : half w0 w g kb K K ts V Z) (hK : K = ts.length) (hsz : w0.heap.size ≤ w.heap.size) (k : Below w.heap.size w w') : kidz w' g ts kb V (fun i => Z i ∨ i = kb) where
  c := fun j hj => by
    rw [(h.b.below k).cell, pls_get _ (by omega), if_pos (by omega)]
  p := fun j t ht => ((h.p j t (by rw [hK]; exact (List.getElem?_eq_some_iff.1 ht).1) ht).below k).mono (fun q hq => .inl hq) (fun q hq => by
    have := k.size
    rcases hq with hq | rfl
    · have := h.z q hq; omega
    · have := h.k; omega)
  zk := .inr rfl
  lt := fun q hq => by
    have := k.size
    rcases hq with hq | rfl
    · have := h.z q hq; omega
    · have := h.k; omega
theorem store_fn {w : World} {kb j k : Nat} {caps : Array Value} {x : Value} (hc : w.cell? ⟨kb, j, none⟩ = some x) (hf : w.frozen? ⟨kb, j, none⟩ = false) : (store ⟨kb, j, none⟩ (.func (.func k) #[] caps)).run Try.prog w = .ok () (w.setCell ⟨kb, j, none⟩ (.func (.func k) #[] caps)) := by
  rw [run_store _ _ _ _ _ rfl, hc]
  simp [hf]
/-- What planned answers. -/
def ansP (g : Nat) (t : T) (r : List Nd) (w0 w : World) (e : Ending) (w' : World) : Prop := ∃ p v' Z, e = .returned (.tuple #[p, v']) ∧ plan w' g t p Z ∧ (∀ i, Z i → w.heap.size ≤ i) ∧ sl w0 v' r ∧ Below w.heap.size w w'
set_option maxHeartbeats 8000000 in
set_option maxRecDepth 100000 in
theorem planned_all (g : Nat) : ∀ (m : Nat) (t : T), (enc t).length ≤ m → m ≤ 500 → okT t → ∀ (r : List Nd) (v : Value) (w0 w : World), (enc t ++ r).length ≤ 1000000 → sl w0 v (enc t ++ r) → Below w0.heap.size w0 w →
    Calls Try.prog 29 #[.pointer (some ⟨g, 0, none⟩), v] w fun e w' => ansP g t r w0 w e w' := by
  intro m
  induction m with
  | zero => intro t hm; exact absurd hm (by have := enc_pos t; omega)
  | succ m ih =>
  intro t hm h5 hok r v w0 w hlen hv hbw
  obtain ⟨A, c, rfl, hc, h⟩ := hv
  have e0 : enc t ++ r = hd t :: (encs (kidsT t) ++ r) := by rw [enc_hd t]; rfl
  rw [e0] at h hc hlen
  have HBW := Lib.hid hbw
  have h00 := h
  have h := h.below hbw
  obtain ⟨b, off, rfl, hb, hp⟩ := h 0 (hd t) rfl
  rw [Nat.zero_mul, Nat.add_zero] at hp
  obtain ⟨x0, x1, x2, x3, hs, q2, q3, q4, q5⟩ := hp.four
  obtain ⟨A', hcut, hA⟩ := cut_one (b := b) (off := off) (n := (hd t :: (encs (kidsT t) ++ r)).length) (c := c) (by simp) hc
  have HR := Lib.hid (nds_rest h00 hc hA)
  have q0 := hp.c0
  have q1 := hp.c1
  have q6 := hp.c6
  have q7 := hp.c7
  obtain ⟨N, hN⟩ : ∃ N, N = (hd t :: (encs (kidsT t) ++ r)).length := ⟨_, rfl⟩
  have hlenv : (enc t ++ r).length = N := by rw [hN, e0]
  rw [← hN] at hcut
  rw [hlenv]
  clear hlenv
  have hN0 : 0 < N := by rw [hN]; simp
  have hN0' : (0 : Int) < (N : Int) := by omega
  have HNN : Hid (N - 1 = (encs (kidsT t) ++ r).length) := Lib.hid (by rw [hN]; simp)
  have HOK := Lib.hid hok
  have HP := Lib.hid hp
  have HSE : Hid ((hd t).s = [x0, x1, x2, x3] ∧ isSet [x0, x1, x2, x3]) := Lib.hid ⟨hs, by rw [← hs]; exact hp.s⟩
  have hk1 := hd_n t
  rw [hk1] at q1
  obtain ⟨K, hK⟩ : ∃ K, K = (kidsT t).length := ⟨_, rfl⟩
  rw [← hK] at q1
  have HKK := Lib.hid hK
  obtain ⟨kk, hkk⟩ : ∃ kk, kk = (hd t).k := ⟨_, rfl⟩
  obtain ⟨lo, hlo⟩ : ∃ lo, lo = (hd t).lo := ⟨_, rfl⟩
  obtain ⟨hi, hhi⟩ : ∃ hi, hi = (hd t).hi := ⟨_, rfl⟩
  rw [← hkk] at q0
  rw [← hlo] at q6
  rw [← hhi] at q7
  have HBB := Lib.hid hb
  have HIH : Hid (∀ (j : Nat) (u : T), (kidsT t)[j]? = some u → ∀ (r : List Nd) (v : Value) (w : World), (enc u ++ r).length ≤ 1000000 → sl w0 v (enc u ++ r) → Below w0.heap.size w0 w →
    Calls Try.prog 29 #[.pointer (some ⟨g, 0, none⟩), v] w fun e w' => ansP g u r w0 w e w') := Lib.hid (fun j u hu r v w hl hv hbw => ih u (by have := kid_less (List.mem_of_getElem? hu); omega) (by omega) (ok_kid hok (List.mem_of_getElem? hu)) r v w0 w hl hv hbw)
  have HHK := Lib.hid hkk
  have HHL := Lib.hid hlo
  have HHH := Lib.hid hhi
  have HLB : Hid ((kidsT t).length ≤ 100000) := Lib.hid (by have h1 := encs_le (kidsT t); have h2 := enc_hd t; have h3 := congrArg List.length h2; rw [List.length_cons] at h3; omega)
  have HLN : Hid ((encs (kidsT t) ++ r).length ≤ 1000000) := Lib.hid (by simp at hlen ⊢; omega)
  have ha : ∀ (o : Obj) (j : Nat) (x : Value), w.cell? ⟨b, j, none⟩ = some x → (w.alloc o).cell? ⟨b, j, none⟩ = some x := fun o j x hx => ((below_alloc w o).cell (p := ⟨b, j, none⟩) hb).trans hx
  obtain ⟨Zo, hZo⟩ : ∃ Zo, Zo = Obj.cells #[.int .i64 0, .int .i64 0, .int .u64 0, .int .u64 0, .int .u64 0, .int .u64 0, .int .i64 0, .int .i64 0] 79 := ⟨_, rfl⟩
  have z0 := ha Zo _ _ q0
  have z1 := ha Zo _ _ q1
  have z2 := ha Zo _ _ q2
  have z3 := ha Zo _ _ q3
  have z4 := ha Zo _ _ q4
  have z5 := ha Zo _ _ q5
  have z6 := ha Zo _ _ q6
  have z7 := ha Zo _ _ q7
  rw [hZo] at z0 z1 z2 z3 z4 z5 z6 z7
  clear hZo ha
  clear hbw h00
  clear h hp hN hok e0 hA hk1 hK hkk hlo hhi hb ih hm h5 hlen hc
  go_enter Try.func29, Try.ntmps29
  go_upto_region 1 with fail
  go_region
  obtain ⟨w1, hw1⟩ : ∃ w1, w1 = (w.alloc (.cells #[.int .i64 kk, .int .i64 (K : Int), .int .u64 (x0 : Int), .int .u64 (x1 : Int), .int .u64 (x2 : Int), .int .u64 (x3 : Int), .int .i64 lo, .int .i64 hi] 79)).drew := ⟨_, rfl⟩
  have B1 : Hid (Below w.heap.size w w1) := Lib.hid (by rw [hw1]; exact below_drew (below_alloc _ _))
  have K1 : Hid (Blk w1 w.heap.size 79 #[.int .i64 kk, .int .i64 (K : Int), .int .u64 (x0 : Int), .int .u64 (x1 : Int), .int .u64 (x2 : Int), .int .u64 (x3 : Int), .int .i64 lo, .int .i64 hi]) := Lib.hid (by rw [hw1]; exact (Blk.fresh w _ _).draws 1)
  rw [← hw1]
  obtain ⟨M, hM⟩ : ∃ M, M = N - 1 := ⟨_, rfl⟩
  obtain ⟨cc, hcc⟩ : ∃ cc, cc = c - 1 := ⟨_, rfl⟩
  rw [← HNN.out, ← hM, ← hcc] at HR
  rw [← hM, ← hcc]
  have HR1 : Hid (sl w0 (.slice A' M cc) (encs ((kidsT t).drop 0) ++ r)) := HR
  have d1 := K1.out.cell 1
  have hKb : K ≤ 1000000 := by
    have h2 := encs_le (kidsT t)
    have h3 := HLN.out
    rw [List.length_append] at h3
    rw [HKK.out]
    omega
  have hmk := made_pl K hKb
  clear hw1 hM hcc HR hcut q0 q1 q2 q3 q4 q5 q6 q7 z0 z1 z2 z3 z4 z5 z6 z7 hN0 hN0'
  go_upto_region 3 with fail
  obtain ⟨w2, hw2⟩ : ∃ w2, w2 = w1.alloc (.cells (pls K (fun _ => .nilFunc)) 54) := ⟨_, rfl⟩
  have B2 : Hid (Below w1.heap.size w1 w2) := Lib.hid (by rw [hw2]; exact below_alloc _ _)
  have KB : Hid (Blk w2 w1.heap.size 54 (pls K (fun _ => .nilFunc))) := Lib.hid (by rw [hw2]; exact Blk.fresh _ _ _)
  rw [← hw2]
  obtain ⟨kb, hkb⟩ : ∃ kb, kb = w1.heap.size := ⟨_, rfl⟩
  have HKB := Lib.hid hkb
  rw [← hkb] at KB ⊢
  have HH0 : Hid (half w2 w2 g kb K 0 (kidsT t) (fun _ => .nilFunc) (fun _ => False)) := Lib.hid ⟨by rw [pls_congr (g := fun _ => .nilFunc) (fun i _ => by simp)]; exact KB.out, fun i _ h => absurd h (by omega), fun _ h => h.elim, KB.out.lt, Only.refl _ _⟩
  have HW2 : Hid (Below w.heap.size w w2) := Lib.hid (grows B1.out B2.out)
  have HKW : Hid (w.heap.size ≤ kb) := Lib.hid (by rw [hkb]; exact B1.out.size)
  clear hw2 hkb hmk d1
  go_wp2
  go_loopw [7, 9, 22] (fun s7 _ s22 wr => ∃ (j : Nat) (A5 : Option Addr) (n5 c5 : Nat) (V : Nat → Value) (Z : Nat → Prop), s7 = .slice A5 n5 c5 ∧ s22 = .int .i64 (j : Int) ∧ j ≤ K ∧ Hid (half w2 wr g kb K j (kidsT t) V Z) ∧ Hid (sl w0 (.slice A5 n5 c5) (encs ((kidsT t).drop j) ++ r))) (fun _ _ s22 _ => K - (intOf s22).toNat)
  case atStart => exact ⟨0, A', M, cc, _, _, rfl, rfl, by omega, HH0, HR1⟩
  case round =>
    obtain ⟨j, A5, n5, c5, V, Z, rfl, rfl, hj, HHF, HSL⟩ := hrel
    by_cases hjn : j < K
    · have hjn' : (j : Int) < (K : Int) := by omega
      have hj0 : (0 : Int) ≤ (j : Int) := by omega
      obtain ⟨u, hu⟩ : ∃ u, (kidsT t)[j]? = some u := ⟨_, List.getElem?_eq_getElem (by rw [← HKK.out]; exact hjn)⟩
      have HU := Lib.hid hu
      have HBR : Hid (Below w0.heap.size w0 wr) := Lib.hid (grows HBW.out (HHF.out.o.below HW2.out HW2.out.size (fun i hi => by rw [hi]; exact HKW.out)))
      have hrk := rest_kid hu r
      have HCA : Hid (Calls Try.prog 29 #[.pointer (some ⟨g, 0, none⟩), .slice A5 n5 c5] wr fun e w' => ansP g u (encs ((kidsT t).drop (j + 1)) ++ r) w0 wr e w') := Lib.hid (HIH.out j u hu _ _ wr (by rw [← hrk, List.length_append]; have h1 := encs_drop (kidsT t) j; have h2 := HLN.out; rw [List.length_append] at h2; omega) (by rw [← hrk]; exact HSL.out) HBR.out)
      have HSW : Hid (w2.heap.size ≤ wr.heap.size) := Lib.hid HHF.out.o.size
      clear hu hrk
      go_wp2_with (go_at_call 29; refine HCA.out.mono ?_; rintro e w3 ⟨p3, v3, Z3, rfl, hp3, hz3, h3, k3⟩; obtain ⟨k4, caps4, rfl, _⟩ := hp3.c; obtain ⟨A3, n3, c3, rfl, hn3, h3⟩ := sl.form h3; have H3 := Lib.hid h3; have B3 := Lib.hid k3; have HP3 := Lib.hid hp3; have HZ3 := Lib.hid hz3; have kc := (HHF.out.b.below k3).cell j; rw [pls_get _ hjn] at kc; have kf := (HHF.out.b.below k3).frozen j; have hst := store_fn (k := k4) (caps := caps4) kc kf; clear kc kf; clear h3 k3 hn3 hp3 hz3)
      go_roundw
      case rel =>
        have HN := Lib.hid (half_next HHF.out HU.out HP3.out HZ3.out B3.out HSW.out)
        exact ⟨j + 1, A3, n3, c3, _, _, rfl, by go_num, by omega, HN, H3⟩
      case measure => simp [intOf]; omega
    · obtain rfl : j = K := by omega
      have hjn' : ¬ (j : Int) < (j : Int) := by omega
      have HSL' : Hid (sl w0 (.slice A5 n5 c5) r) := Lib.hid (by have := HSL.out; rw [HKK.out, List.drop_length] at this; exact this)
      have HBE : Hid (Below w.heap.size w wr) := Lib.hid (HHF.out.o.below HW2.out HW2.out.size (fun i hi => by rw [hi]; exact HKW.out))
      have HRB : Hid (Blk wr w.heap.size 79 #[.int .i64 kk, .int .i64 (j : Int), .int .u64 (x0 : Int), .int .u64 (x1 : Int), .int .u64 (x2 : Int), .int .u64 (x3 : Int), .int .i64 lo, .int .i64 hi]) := Lib.hid ((K1.out.below B2.out).only HHF.out.o (fun e => by have h1 := K1.out.lt; have h2 := HKB.out; have e' : w.heap.size = kb := e; omega))
      have HKZ : Hid (∀ w', Below wr.heap.size wr w' → kidz w' g (kidsT t) kb V (fun i => Z i ∨ i = kb)) := Lib.hid (fun w' k => half_all HHF.out HKK.out HHF.out.o.size k)
      have HZW : Hid (∀ i, (Z i ∨ i = kb) → w.heap.size ≤ i) := Lib.hid (fun i hi => by
        rcases hi with hi | rfl
        · have h1 := (HHF.out.z i hi).1; have h2 := HW2.out.size; omega
        · exact HKW.out)
      have e0 := HRB.out.cell 0
      have e1 := HRB.out.cell 1
      have e2 := HRB.out.cell 2
      have e3 := HRB.out.cell 3
      have e4 := HRB.out.cell 4
      have e5 := HRB.out.cell 5
      have e6 := HRB.out.cell 6
      have e7 := HRB.out.cell 7
      have hsW : w.heap.size ≤ wr.heap.size := HBE.out.size
      have HSW := Lib.hid hsW
      clear hjn hsW
      cases t with
      | set a =>
        obtain rfl : kk = 1 := HHK.out
        go_wp2_with (go_at_call 47; refine (single_mk wr).mono ?_; rintro e w5 ⟨bn, be, rfl, hn, he, hz, k5⟩; have HN5 := Lib.hid hn; have HE5 := Lib.hid he; have HZ5 := Lib.hid hz; have K5 := Lib.hid k5; clear hn he hz k5)
        go_ret2
        refine ⟨_, _, _, rfl, plan_single HSE.out.2 (fun E => ?_) (by simp [szU]) HN5.out HE5.out, fun i hi => ?_, HSL'.out, grows HBE.out K5.out⟩
        · have h1 : a = [x0, x1, x2, x3] := HSE.out.1
          rw [bT, h1]
        · have := HSW.out
          rcases hi with rfl | rfl
          · have := HZ5.out.1; omega
          · have := HZ5.out.2; omega
      | emp =>
        obtain rfl : kk = 2 := HHK.out
        go_wp2_with (go_at_call 47; refine (single_mk wr).mono ?_; rintro e w5 ⟨bn, be, rfl, hn, he, hz, k5⟩; have HN5 := Lib.hid hn; have HE5 := Lib.hid he; have HZ5 := Lib.hid hz; have K5 := Lib.hid k5; clear hn he hz k5)
        go_ret2
        refine ⟨_, _, _, rfl, plan_single (x0 := 0) (x1 := 0) (x2 := 0) (x3 := 0) isSet_zero (fun E => ?_) (by simp [szU]) HN5.out HE5.out, fun i hi => ?_, HSL'.out, grows HBE.out K5.out⟩
        · rw [bT]; rfl
        · have := HSW.out
          rcases hi with rfl | rfl
          · have := HZ5.out.1; omega
          · have := HZ5.out.2; omega
      | cat l =>
        obtain rfl : kk = 3 := HHK.out
        have hl2 : 2 ≤ l.length := by have := HOK.out; unfold okT at this; exact this.1
        have HL2 := Lib.hid hl2
        have HKL : Hid (l.length = j) := Lib.hid HKK.out.symm
        clear hl2
        go_wp2_with (go_at_call 48; refine (chain_mk wr).mono ?_; rintro e w5 ⟨bn, bk, rfl, hn, he, hz, k5⟩; have HN5 := Lib.hid hn; have HE5 := Lib.hid he; have HZ5 := Lib.hid hz; have K5 := Lib.hid k5; clear hn he hz k5)
        go_ret2
        refine ⟨_, _, _, rfl, plan_chain (c := j) HL2.out (by have := HOK.out; unfold okT at this; exact this.2) (by have := HKL.out; omega) (by exact HLB.out) (HKZ.out w5 K5.out) HN5.out (by rw [HKL.out]; exact HE5.out), fun i hi => ?_, HSL'.out, grows HBE.out K5.out⟩
        have := HSW.out
        rcases hi with hi | rfl | rfl
        · exact HZW.out i hi
        · have := HZ5.out.1; omega
        · have := HZ5.out.2; omega
      | alt l =>
        obtain rfl : kk = 4 := HHK.out
        have HKL : Hid (l.length = j) := Lib.hid HKK.out.symm
        go_wp2_with (go_at_call 49; refine (choice_mk wr).mono ?_; rintro e w5 ⟨bn, bk, rfl, hn, he, hz, k5⟩; have HN5 := Lib.hid hn; have HE5 := Lib.hid he; have HZ5 := Lib.hid hz; have K5 := Lib.hid k5; clear hn he hz k5)
        go_ret2
        refine ⟨_, _, _, rfl, plan_choice (c := j) (by have := HOK.out; unfold okT at this; exact this.2) (by have := HKL.out; omega) (by exact HLB.out) (HKZ.out w5 K5.out) HN5.out (by rw [HKL.out]; exact HE5.out), fun i hi => ?_, HSL'.out, grows HBE.out K5.out⟩
        have := HSW.out
        rcases hi with hi | rfl | rfl
        · exact HZW.out i hi
        · have := HZ5.out.1; omega
        · have := HZ5.out.2; omega
      | star u =>
        obtain rfl : kk = 5 := HHK.out
        obtain rfl : j = 1 := HKK.out
        have HBD : Hid (∀ w : World, Calls Try.prog 50 #[.agg #[.int .i64 5, .int .i64 ((1 : Nat) : Int), .int .u64 (x0 : Int), .int .u64 (x1 : Int), .int .u64 (x2 : Int), .int .u64 (x3 : Int), .int .i64 lo, .int .i64 hi]] w fun e w' => e = .returned (.tuple #[.int .i64 0, .int .i64 (-1)]) ∧ Below w.heap.size w w') := Lib.hid (fun w => bounds_any (k := 5) (n := 1) (lo := lo) (hi := hi) w)
        obtain ⟨k9, caps9, hv9, _⟩ := ((HKZ.out wr (Below.refl _ _)).p 0 u rfl).c
        have HV9 := Lib.hid hv9
        have HKC : Hid (∀ w', Below wr.heap.size wr w' → w'.cell? ⟨kb, 0, none⟩ = some (.func (.func k9) #[] caps9)) := Lib.hid (fun w' k => by rw [← hv9]; exact (HKZ.out w' k).c 0 (by simp [kidsT]))
        clear hv9
        go_wp2_with (first | (go_at_call 50; refine (HBD.out _).mono ?_; rintro e w6 ⟨rfl, k6⟩; have K6 := Lib.hid k6; have kc := HKC.out w6 k6; clear k6) | (go_at_call 51; refine (repetition_mk w6).mono ?_; rintro e w5 ⟨bn, bl, bh, bp, rfl, hn, hl, hh, hp, hz, k5⟩; have HN5 := Lib.hid hn; have HL5 := Lib.hid hl; have HH5 := Lib.hid hh; have HP5 := Lib.hid hp; have HZ5 := Lib.hid hz; have K5 := Lib.hid k5; clear hn hl hh hp hz k5))
        go_ret2
        have K65 := grows K6.out K5.out
        refine ⟨_, _, _, rfl, plan_rep (t := u) (lo := 0) (hi := (-1)) (by have := HOK.out; unfold okT at this; exact this) (by omega) (.inl rfl) (fun E => by rw [bT]) (by simp [szU, cps]) (by rw [← HV9.out]; exact (HKZ.out w5 K65).p 0 u rfl) HN5.out HL5.out HH5.out HP5.out, fun i hi' => ?_, HSL'.out, grows HBE.out K65⟩
        have h1 := HSW.out
        have h2 := K6.out.size
        rcases hi' with hi' | rfl | rfl | rfl | rfl
        · exact HZW.out i hi'
        · have := HZ5.out.1; omega
        · have := HZ5.out.2.1; omega
        · have := HZ5.out.2.2.1; omega
        · have := HZ5.out.2.2.2; omega
      | plus u =>
        obtain rfl : kk = 6 := HHK.out
        obtain rfl : j = 1 := HKK.out
        have HBD : Hid (∀ w : World, Calls Try.prog 50 #[.agg #[.int .i64 6, .int .i64 ((1 : Nat) : Int), .int .u64 (x0 : Int), .int .u64 (x1 : Int), .int .u64 (x2 : Int), .int .u64 (x3 : Int), .int .i64 lo, .int .i64 hi]] w fun e w' => e = .returned (.tuple #[.int .i64 1, .int .i64 (-1)]) ∧ Below w.heap.size w w') := Lib.hid (fun w => bounds_any (k := 6) (n := 1) (lo := lo) (hi := hi) w)
        obtain ⟨k9, caps9, hv9, _⟩ := ((HKZ.out wr (Below.refl _ _)).p 0 u rfl).c
        have HV9 := Lib.hid hv9
        have HKC : Hid (∀ w', Below wr.heap.size wr w' → w'.cell? ⟨kb, 0, none⟩ = some (.func (.func k9) #[] caps9)) := Lib.hid (fun w' k => by rw [← hv9]; exact (HKZ.out w' k).c 0 (by simp [kidsT]))
        clear hv9
        go_wp2_with (first | (go_at_call 50; refine (HBD.out _).mono ?_; rintro e w6 ⟨rfl, k6⟩; have K6 := Lib.hid k6; have kc := HKC.out w6 k6; clear k6) | (go_at_call 51; refine (repetition_mk w6).mono ?_; rintro e w5 ⟨bn, bl, bh, bp, rfl, hn, hl, hh, hp, hz, k5⟩; have HN5 := Lib.hid hn; have HL5 := Lib.hid hl; have HH5 := Lib.hid hh; have HP5 := Lib.hid hp; have HZ5 := Lib.hid hz; have K5 := Lib.hid k5; clear hn hl hh hp hz k5))
        go_ret2
        have K65 := grows K6.out K5.out
        refine ⟨_, _, _, rfl, plan_rep (t := u) (lo := 1) (hi := (-1)) (by have := HOK.out; unfold okT at this; exact this) (by omega) (.inl rfl) (fun E => by rw [bT]) (by simp [szU, cps]) (by rw [← HV9.out]; exact (HKZ.out w5 K65).p 0 u rfl) HN5.out HL5.out HH5.out HP5.out, fun i hi' => ?_, HSL'.out, grows HBE.out K65⟩
        have h1 := HSW.out
        have h2 := K6.out.size
        rcases hi' with hi' | rfl | rfl | rfl | rfl
        · exact HZW.out i hi'
        · have := HZ5.out.1; omega
        · have := HZ5.out.2.1; omega
        · have := HZ5.out.2.2.1; omega
        · have := HZ5.out.2.2.2; omega
      | opt u =>
        obtain rfl : kk = 7 := HHK.out
        obtain rfl : j = 1 := HKK.out
        have HBD : Hid (∀ w : World, Calls Try.prog 50 #[.agg #[.int .i64 7, .int .i64 ((1 : Nat) : Int), .int .u64 (x0 : Int), .int .u64 (x1 : Int), .int .u64 (x2 : Int), .int .u64 (x3 : Int), .int .i64 lo, .int .i64 hi]] w fun e w' => e = .returned (.tuple #[.int .i64 0, .int .i64 1]) ∧ Below w.heap.size w w') := Lib.hid (fun w => bounds_any (k := 7) (n := 1) (lo := lo) (hi := hi) w)
        obtain ⟨k9, caps9, hv9, _⟩ := ((HKZ.out wr (Below.refl _ _)).p 0 u rfl).c
        have HV9 := Lib.hid hv9
        have HKC : Hid (∀ w', Below wr.heap.size wr w' → w'.cell? ⟨kb, 0, none⟩ = some (.func (.func k9) #[] caps9)) := Lib.hid (fun w' k => by rw [← hv9]; exact (HKZ.out w' k).c 0 (by simp [kidsT]))
        clear hv9
        go_wp2_with (first | (go_at_call 50; refine (HBD.out _).mono ?_; rintro e w6 ⟨rfl, k6⟩; have K6 := Lib.hid k6; have kc := HKC.out w6 k6; clear k6) | (go_at_call 51; refine (repetition_mk w6).mono ?_; rintro e w5 ⟨bn, bl, bh, bp, rfl, hn, hl, hh, hp, hz, k5⟩; have HN5 := Lib.hid hn; have HL5 := Lib.hid hl; have HH5 := Lib.hid hh; have HP5 := Lib.hid hp; have HZ5 := Lib.hid hz; have K5 := Lib.hid k5; clear hn hl hh hp hz k5))
        go_ret2
        have K65 := grows K6.out K5.out
        refine ⟨_, _, _, rfl, plan_rep (t := u) (lo := 0) (hi := 1) (by have := HOK.out; unfold okT at this; exact this) (by omega) (.inr (by omega)) (fun E => by rw [bT]) (by simp [szU, cps]) (by rw [← HV9.out]; exact (HKZ.out w5 K65).p 0 u rfl) HN5.out HL5.out HH5.out HP5.out, fun i hi' => ?_, HSL'.out, grows HBE.out K65⟩
        have h1 := HSW.out
        have h2 := K6.out.size
        rcases hi' with hi' | rfl | rfl | rfl | rfl
        · exact HZW.out i hi'
        · have := HZ5.out.1; omega
        · have := HZ5.out.2.1; omega
        · have := HZ5.out.2.2.1; omega
        · have := HZ5.out.2.2.2; omega
      | rep l0 h0 u =>
        obtain rfl : kk = 8 := HHK.out
        obtain rfl : j = 1 := HKK.out
        obtain rfl : lo = (l0 : Int) := HHL.out
        obtain rfl : hi = h0 := HHH.out
        have HBD : Hid (∀ w : World, Calls Try.prog 50 #[.agg #[.int .i64 8, .int .i64 ((1 : Nat) : Int), .int .u64 (x0 : Int), .int .u64 (x1 : Int), .int .u64 (x2 : Int), .int .u64 (x3 : Int), .int .i64 (l0 : Int), .int .i64 hi]] w fun e w' => e = .returned (.tuple #[.int .i64 (l0 : Int), .int .i64 hi]) ∧ Below w.heap.size w w') := Lib.hid (fun w => bounds_any (k := 8) (n := 1) (lo := (l0 : Int)) (hi := hi) w)
        obtain ⟨k9, caps9, hv9, _⟩ := ((HKZ.out wr (Below.refl _ _)).p 0 u rfl).c
        have HV9 := Lib.hid hv9
        have HKC : Hid (∀ w', Below wr.heap.size wr w' → w'.cell? ⟨kb, 0, none⟩ = some (.func (.func k9) #[] caps9)) := Lib.hid (fun w' k => by rw [← hv9]; exact (HKZ.out w' k).c 0 (by simp [kidsT]))
        clear hv9
        go_wp2_with (first | (go_at_call 50; refine (HBD.out _).mono ?_; rintro e w6 ⟨rfl, k6⟩; have K6 := Lib.hid k6; have kc := HKC.out w6 k6; clear k6) | (go_at_call 51; refine (repetition_mk w6).mono ?_; rintro e w5 ⟨bn, bl, bh, bp, rfl, hn, hl, hh, hp, hz, k5⟩; have HN5 := Lib.hid hn; have HL5 := Lib.hid hl; have HH5 := Lib.hid hh; have HP5 := Lib.hid hp; have HZ5 := Lib.hid hz; have K5 := Lib.hid k5; clear hn hl hh hp hz k5))
        go_ret2
        have K65 := grows K6.out K5.out
        refine ⟨_, _, _, rfl, plan_rep (t := u) (lo := l0) (hi := hi) (by have := HOK.out; unfold okT at this; exact this.2.2) (by have := HOK.out; unfold okT at this; have := this.1; omega) (by have := HOK.out; unfold okT at this; exact this.2.1.elim .inl (fun h => .inr (by omega))) (fun E => by rw [bT]) (by simp [szU]) (by rw [← HV9.out]; exact (HKZ.out w5 K65).p 0 u rfl) HN5.out HL5.out HH5.out HP5.out, fun i hi' => ?_, HSL'.out, grows HBE.out K65⟩
        have h1 := HSW.out
        have h2 := K6.out.size
        rcases hi' with hi' | rfl | rfl | rfl | rfl
        · exact HZW.out i hi'
        · have := HZ5.out.1; omega
        · have := HZ5.out.2.1; omega
        · have := HZ5.out.2.2.1; omega
        · have := HZ5.out.2.2.2; omega
end Go.Proofs.Ythjelilmlbbalaa.Dv
