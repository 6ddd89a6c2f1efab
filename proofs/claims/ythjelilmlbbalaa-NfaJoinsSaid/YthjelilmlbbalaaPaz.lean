/-
  The program's crowd (layer 17): states of an automaton, each once; isState, meet.
  The program's isState, meet and gather (layer 17).
  The program's Right of automata with choices (layer 17).
  The program's closed (layer 17): a crowd with all that Free edges lead to, in order.
  The program's step (layer 17): where a byte leads.
  The program's ended (layer 17): the rules of some states, each once, in order.
  The program's Closure and Step (layer 17).
  The program's Run (layer 17): the rules after a text.
  Conditions: as each theorem says.
-/
import Derived.Test.YthjelilmlbbalaaPay
import Derived.Test.YthjelilmlbbalaaPap
import Derived.Test.YthjelilmlbbalaaPan
import Derived.BigQuiet
namespace Go.Proofs.Ythjelilmlbbalaa.Dh
open Go.RowKit Go.Proofs.Ythjelilmlbbalaa.Vm Go.Proofs.Ythjelilmlbbalaa.Vo Go.Proofs.Ythjelilmlbbalaa.Bw Go.Proofs.Ythjelilmlbbalaa.Na Go.Proofs.Ythjelilmlbbalaa.Ko Go.Proofs.Ythjelilmlbbalaa.Ed Go.Proofs.Ythjelilmlbbalaa.An Go.Proofs.Ythjelilmlbbalaa.Ac Go.Proofs.Ythjelilmlbbalaa.Aa Go.Proofs.Ythjelilmlbbalaa.Ag Go.Proofs.Ythjelilmlbbalaa.Ar Go.Proofs.Ythjelilmlbbalaa.Da Go.Proofs.Ythjelilmlbbalaa.Db Go.Proofs.Ythjelilmlbbalaa.Dg

/-- A number more, if it is not there. -/
def addQ (L : List Int) (x : Int) : List Int := if x ∈ L then L else L ++ [x]
theorem addQ_mem {L : List Int} {x y : Int} : y ∈ addQ L x ↔ y = x ∨ y ∈ L := by
  unfold addQ
  split
  · next h => exact ⟨.inr, fun k => k.elim (fun e => by rw [e]; exact h) id⟩
  · rw [List.mem_append, List.mem_singleton]
    exact ⟨fun k => k.elim .inr .inl, fun k => k.elim .inr .inl⟩
theorem addQ_nodup {L : List Int} {x : Int} (h : L.Nodup) : (addQ L x).Nodup := by
  unfold addQ
  split
  · exact h
  · next hx =>
    rw [List.nodup_append]
    exact ⟨h, by simp, fun a ha b hb => by rw [List.mem_singleton.1 hb]; exact fun e => hx (e ▸ ha)⟩
/-- A crowd in memory. -/
structure crw (w : World) (base q mb K : Nat) (L : List Int) (v : Value) : Prop where
  b : Blk w q 75 #[.slice (some ⟨mb, 0, none⟩) K K, v]
  m : Blk w mb 4 (bls K (fun i => decide ((i : Int) ∈ L)))
  l : ints w base 3 v L
  lq : base ≤ q
  lm : base ≤ mb
  r : ∀ x ∈ L, 0 ≤ x ∧ x < (K : Int)
  n : L.Nodup
/-- Its blocks. -/
def cS (q mb : Nat) (v : Value) (i : Nat) : Prop := i = q ∨ i = mb ∨ v.ownBlock = some i
theorem nodup_len : ∀ {K : Nat} {L : List Int}, L.Nodup → (∀ x ∈ L, 0 ≤ x ∧ x < (K : Int)) → L.length ≤ K := fun {K L} h hr => by
  have ha := srt_asc h
  have := asc_len (lo := 0) (hi := (K : Int)) ha (fun x hx => hr x (srt_mem.1 hx)) (by omega)
  rw [srt_len] at this
  omega
section
variable {w w' : World} {base q mb K : Nat} {L : List Int} {v : Value}
theorem crw.len (h : crw w base q mb K L v) : L.length ≤ K := nodup_len h.n h.r
theorem crw.only {S : Nat → Prop} (h : crw w base q mb K L v) (k : Only S w w') (hS : ∀ i, cS q mb v i → ¬ S i) : crw w' base q mb K L v :=
  { h with b := h.b.only k (hS _ (.inl rfl)), m := h.m.only k (hS _ (.inr (.inl rfl))), l := h.l.only k (fun i hi => hS i (.inr (.inr hi))) }
theorem crw.below (h : crw w base q mb K L v) (k : Below w.heap.size w w') : crw w' base q mb K L v := h.only (S := fun _ => False) (Only.of_below k) (fun _ _ e => e)
theorem crw.lo (h : crw w base q mb K L v) : ∀ i, cS q mb v i → base ≤ i ∧ i < w.heap.size := fun i hi => by
  rcases hi with rfl | rfl | hi
  · exact ⟨h.lq, h.b.lt⟩
  · exact ⟨h.lm, h.m.lt⟩
  · exact h.l.lo i hi
/-- A block of another type is none of its. -/
theorem crw.apart (h : crw w base q mb K L v) {g : Nat} {t : TypeId} {cs : Array Value} (hb : Blk w g t cs) (h1 : t ≠ 75) (h2 : t ≠ 4) (h3 : t ≠ 3) : ¬ cS q mb v g := fun hi => by
  rcases hi with rfl | rfl | hi
  · exact Blk.apart hb h.b h1 rfl
  · exact Blk.apart hb h.m h2 rfl
  · exact own_apart h.l hb (fun e => h3 e.symm) g hi rfl
/-- One state more. -/
theorem crw_add {w1 w4 w5 : World} {v' : Value} {x : Nat} (h : crw w base q mb K L v) (hx : x < K) (hn : (x : Int) ∉ L) (e1 : w1 = w.setCell ⟨mb, x, none⟩ (.bool true))
    (h4 : vs w4 base 3 v' (Is L ++ [.int .i64 (x : Int)])) (o4 : Only (fun i => v.ownBlock = some i) w1 w4) (e5 : w5 = w4.setCell ⟨q, 1, none⟩ v') : crw w5 base q mb K (addQ L (x : Int)) v' ∧ Only (cS q mb v) w w5 := by
  have hqm : mb ≠ q := fun e => Blk.apart h.m h.b (by decide) e
  have o1 : Only (fun i => i = mb) w w1 := by rw [e1]; exact (Only.refl (fun i => i = mb) w).store (p := ⟨mb, x, none⟩) (.inl rfl) _
  have o5 : Only (fun i => i = q) w4 w5 := by rw [e5]; exact (Only.refl (fun i => i = q) w4).store (p := ⟨q, 1, none⟩) (.inl rfl) _
  have b1 := h.b.only o1 (fun e => hqm e.symm)
  have m1 : Blk w1 mb 4 (bls K (fun i => decide ((i : Int) ∈ addQ L (x : Int)))) := by
    rw [e1]
    have := h.m.store x (.bool true)
    rw [bls_set] at this
    rw [bls_congr (g := fun i => if i = x then true else decide ((i : Int) ∈ L)) (fun i _ => ?_)]
    · exact this
    · by_cases e : i = x
      · rw [if_pos e, e]; simp [addQ_mem]
      · rw [if_neg e]
        congr 1
        rw [addQ_mem]
        exact propext ⟨fun k => k.elim (fun e' => absurd (by omega) e) id, .inr⟩
  have l1 : ints w1 base 3 v L := h.l.only o1 (fun i hi e => own_apart h.l h.m (by decide) i hi e)
  have b4 := b1.only o4 (fun e => own_apart l1 b1 (by decide) q e rfl)
  have m4 := m1.only o4 (fun e => own_apart l1 m1 (by decide) mb e rfl)
  have e2 : addQ L (x : Int) = L ++ [(x : Int)] := if_neg hn
  have l4 : ints w4 base 3 v' (L ++ [(x : Int)]) := ints_of_vs h4
  refine ⟨⟨by rw [e5]; exact b4.store 1 v', m4.only o5 hqm, by rw [e2]; exact l4.only o5 (fun i hi e => own_apart l4 b4 (by decide) i hi e), h.lq, h.lm, fun y hy => ?_, addQ_nodup h.n⟩, ((o1.mono (fun i hi => .inr (.inl hi))).trans (o4.mono (fun i hi => .inr (.inr hi)))).trans (o5.mono (fun i hi => .inl hi))⟩
  rcases addQ_mem.1 hy with rfl | hy
  · omega
  · exact h.r y hy
end
end Go.Proofs.Ythjelilmlbbalaa.Dh
namespace Go.Proofs.Ythjelilmlbbalaa.Di
open Go.RowKit Go.Proofs.Ythjelilmlbbalaa.Vm Go.Proofs.Ythjelilmlbbalaa.Vo Go.Proofs.Ythjelilmlbbalaa.Bw Go.Proofs.Ythjelilmlbbalaa.Na Go.Proofs.Ythjelilmlbbalaa.Ko Go.Proofs.Ythjelilmlbbalaa.Ed Go.Proofs.Ythjelilmlbbalaa.An Go.Proofs.Ythjelilmlbbalaa.Ac Go.Proofs.Ythjelilmlbbalaa.Aa Go.Proofs.Ythjelilmlbbalaa.Ag Go.Proofs.Ythjelilmlbbalaa.Ar Go.Proofs.Ythjelilmlbbalaa.Ab Go.Proofs.Ythjelilmlbbalaa.Da Go.Proofs.Ythjelilmlbbalaa.Db Go.Proofs.Ythjelilmlbbalaa.Dg Go.Proofs.Ythjelilmlbbalaa.Dh

/-- Is it a state. -/
def stB (z : Int) (K : Nat) : Bool := decide (0 ≤ z ∧ z < (K : Int))
set_option maxRecDepth 100000 in
theorem isState_any {A1 A2 : Option Addr} {K c1 M c2 : Nat} {F z : Int} (w : World) :
    Calls Try.prog 34 #[.agg #[.slice A1 K c1, .int .i64 F, .slice A2 M c2], .int .i64 z] w fun e w' => e = .returned (.bool (stB z K)) ∧ Below w.heap.size w w' := by
  obtain ⟨w1, hw1⟩ : ∃ w1, w1 = w.alloc (.cells #[.slice A1 K c1, .int .i64 F, .slice A2 M c2] 28) := ⟨_, rfl⟩
  have B1 : Hid (Below w.heap.size w w1) := Lib.hid (by rw [hw1]; exact below_alloc _ _)
  have K1 : Hid (Blk w1 w.heap.size 28 #[.slice A1 K c1, .int .i64 F, .slice A2 M c2]) := Lib.hid (by rw [hw1]; exact Blk.fresh _ _ _)
  have d0 : w1.cell? ⟨w.heap.size, 0, none⟩ = some (.slice A1 K c1) := K1.out.cell 0
  by_cases h0 : 0 ≤ z
  · by_cases h1 : z < (K : Int)
    · rw [show stB z K = true by unfold stB; simp [h0, h1]]
      go_enter Try.func34, Try.ntmps34
      go_upto_region 1 with fail
      rw [← hw1]
      clear hw1
      go_wp2
      go_ret
      exact ⟨rfl, B1.out⟩
    · rw [show stB z K = false by unfold stB; simp [h1]]
      go_enter Try.func34, Try.ntmps34
      go_upto_region 1 with fail
      rw [← hw1]
      clear hw1
      go_wp2
      go_ret
      exact ⟨rfl, B1.out⟩
  · rw [show stB z K = false by unfold stB; simp [h0]]
    go_enter Try.func34, Try.ntmps34
    go_upto_region 1 with fail
    rw [← hw1]
    clear hw1
    go_wp2
    go_ret
    exact ⟨rfl, B1.out⟩
set_option maxHeartbeats 1000000 in
set_option maxRecDepth 100000 in
theorem meet_any {w : World} {base q mb K x : Nat} {L : List Int} {v : Value} (hx : x < K) (hK : K ≤ 100000) (H : Hid (crw w base q mb K L v)) :
    Calls Try.prog 56 #[.pointer (some ⟨q, 0, none⟩), .int .i64 (x : Int)] w fun e w' => e = .returned (.tuple #[]) ∧ ∃ v', crw w' base q mb K (addQ L (x : Int)) v' ∧ Only (cS q mb v) w w' := by
  have d0 := H.out.b.cell 0
  have d1 := H.out.b.cell 1
  have dm : w.cell? ⟨mb, x, none⟩ = some (.bool (decide ((x : Int) ∈ L))) := (H.out.m.cell x).trans (bls_get _ hx)
  have hxK : (x : Int) < (K : Int) := by omega
  have hx0 : (0 : Int) ≤ (x : Int) := by omega
  by_cases hn : (x : Int) ∈ L
  · have e2 : addQ L (x : Int) = L := if_pos hn
    have e3 : decide ((x : Int) ∈ L) = true := by simp [hn]
    rw [e3] at dm
    rw [e2]
    clear hn e2 e3
    go_enter Try.func56, Try.ntmps56
    go_wp2
    go_end0
    exact ⟨rfl, v, H.out, Only.refl _ _⟩
  · have e3 : decide ((x : Int) ∈ L) = false := by simp [hn]
    rw [e3] at dm
    have HN := Lib.hid hn
    have HX := Lib.hid hx
    have HLEN : Hid ((Is L).length ≤ 1000000000) := Lib.hid (by rw [Is_length]; have := H.out.len; omega)
    obtain ⟨A, c, hv, _⟩ := H.out.l.le
    obtain ⟨m, hm⟩ : ∃ m, m = L.length := ⟨_, rfl⟩
    rw [← hm] at hv
    have HM := Lib.hid hm
    subst hv
    have fm : w.frozen? ⟨mb, x, none⟩ = false := H.out.m.frozen x
    obtain ⟨w1, hw1⟩ : ∃ w1, w1 = w.setCell ⟨mb, x, none⟩ (.bool true) := ⟨_, rfl⟩
    have o1 : Only (fun i => i = mb) w w1 := by rw [hw1]; exact (Only.refl (fun i => i = mb) w).store (p := ⟨mb, x, none⟩) (.inl rfl) _
    have B1 : Hid (Blk w1 q 75 #[.slice (some ⟨mb, 0, none⟩) K K, .slice A m c]) := Lib.hid (H.out.b.only o1 (fun e => Blk.apart H.out.m H.out.b (by decide) e.symm))
    have L1 : Hid (ints w1 base 3 (.slice A m c) L) := Lib.hid (H.out.l.only o1 (fun i hi e => own_apart H.out.l H.out.m (by decide) i hi e))
    have HW1 := Lib.hid hw1
    have HBS : Hid (base ≤ w1.heap.size) := Lib.hid (by have h1 := H.out.lq; have h2 := B1.out.lt; omega)
    clear hn hm e3 hx o1
    go_enter Try.func56, Try.ntmps56
    go_upto_region 2 with fail
    rw [← hw1]
    have d1 := B1.out.cell 1
    clear hw1 d0 dm fm
    go_wp2_with (at_builtin; refine wpList_vsO Try.underlying26 infoI rfl (by decide) rfl _ _ rfl (base := base) HBS.out (by rfl) (vs_of_ints L1.out) (.int .i64 (x : Int)) rfl rfl (by rfl) rfl HLEN.out ?_; intro v4 w4 h4 o4; obtain ⟨A4, c4, hv4⟩ : ∃ A4 c4, v4 = .slice A4 (m + 1) c4 := (by obtain ⟨A4, c4, e, _⟩ := h4.le; exact ⟨A4, c4, by rw [e, List.length_append, Is_length, HM.out]; rfl⟩); subst hv4; have b4 := B1.out.only o4 (fun e => own_apart L1.out B1.out (by decide) q e rfl); have e1 := b4.cell 1; have f41 := b4.frozen 1; have H4 := Lib.hid h4; have O4 := Lib.hid o4; clear h4 o4 b4)
    go_end0
    obtain ⟨k1, k2⟩ := crw_add H.out HX.out HN.out HW1.out H4.out O4.out rfl
    exact ⟨rfl, _, k1, k2⟩
/-- The states among the first so many numbers, each once. -/
def gatQ (K : Nat) (D : List Int) : Nat → List Int
  | 0 => []
  | i + 1 => match D[i]? with
    | some z => if stB z K = true then addQ (gatQ K D i) z else gatQ K D i
    | none => gatQ K D i
theorem gatQ_mem {K : Nat} {D : List Int} : ∀ {i : Nat} {x : Int}, x ∈ gatQ K D i ↔ (0 ≤ x ∧ x < (K : Int)) ∧ ∃ a, a < i ∧ D[a]? = some x
  | 0, x => by simp [gatQ]
  | i + 1, x => by
    rw [gatQ]
    split
    · next z hz =>
      split
      · next hs =>
        unfold stB at hs
        simp at hs
        rw [addQ_mem, gatQ_mem]
        constructor
        · rintro (rfl | ⟨h, a, h1, h2⟩)
          · exact ⟨hs, i, by omega, hz⟩
          · exact ⟨h, a, by omega, h2⟩
        · rintro ⟨h, a, h1, h2⟩
          rcases (show a < i ∨ a = i by omega) with h3 | rfl
          · exact .inr ⟨h, a, h3, h2⟩
          · rw [hz] at h2; exact .inl (Option.some.inj h2).symm
      · next hs =>
        unfold stB at hs
        simp at hs
        rw [gatQ_mem]
        constructor
        · rintro ⟨h, a, h1, h2⟩
          exact ⟨h, a, by omega, h2⟩
        · rintro ⟨h, a, h1, h2⟩
          rcases (show a < i ∨ a = i by omega) with h3 | rfl
          · exact ⟨h, a, h3, h2⟩
          · rw [hz] at h2
            obtain rfl := Option.some.inj h2
            have := hs h.1
            omega
    · next hz =>
      rw [gatQ_mem]
      constructor
      · rintro ⟨h, a, h1, h2⟩
        exact ⟨h, a, by omega, h2⟩
      · rintro ⟨h, a, h1, h2⟩
        rcases (show a < i ∨ a = i by omega) with h3 | rfl
        · exact ⟨h, a, h3, h2⟩
        · rw [hz] at h2; cases h2
theorem gatQ_next {K i : Nat} {D : List Int} {z : Int} (h : D[i]? = some z) : gatQ K D (i + 1) = if stB z K = true then addQ (gatQ K D i) z else gatQ K D i := by
  rw [gatQ, h]
theorem made_bl' (n : Nat) (hn : n ≤ 1000000) (u : World) : (Instr.makeSlice 73 (.int .i64 (n : Int)) (.int .i64 (n : Int))).run Try.prog u = .ok (.slice (some ⟨u.heap.size, 0, none⟩) n n) (u.alloc (.cells (bls n (fun _ => false)) 4)) := made_bl n hn u
theorem crw_start {w : World} {base K : Nat} (hb : base ≤ w.heap.size) : crw ((w.alloc (.cells (bls K (fun _ => false)) 4)).alloc (.cells #[.slice (some ⟨w.heap.size, 0, none⟩) K K, .slice none 0 0] 75)) base (w.heap.size + 1) w.heap.size K [] (.slice none 0 0) where
  b := by
    have := Blk.fresh (w.alloc (.cells (bls K (fun _ => false)) 4)) 75 #[.slice (some ⟨w.heap.size, 0, none⟩) K K, .slice none 0 0]
    rw [size_alloc] at this
    exact this
  m := by
    have := (Blk.fresh w 4 (bls K (fun _ => false))).below (below_alloc _ (.cells #[.slice (some ⟨w.heap.size, 0, none⟩) K K, .slice none 0 0] 75))
    rw [bls_congr (g := fun _ => false) (fun i _ => by simp)]
    exact this
  l := ints_nil _ _ _
  lq := by omega
  lm := hb
  r := by simp
  n := List.nodup_nil
/-- What gather answers. -/
def ansG (K : Nat) (D : List Int) (w : World) (e : Ending) (w' : World) : Prop := ∃ q mb v, e = .returned (.pointer (some ⟨q, 0, none⟩)) ∧ crw w' w.heap.size q mb K (gatQ K D D.length) v ∧ Below w.heap.size w w'
set_option maxHeartbeats 2000000 in
set_option maxRecDepth 100000 in
theorem gather_any {A1 A2 Ad : Option Addr} {K c1 M c2 cd : Nat} {F : Int} {D : List Int} (hK : K ≤ 3000) (hD : D.length ≤ 1000000) {w : World} (HD : Hid (row w Ad D.length (at0 D))) :
    Calls Try.prog 36 #[.agg #[.slice A1 K c1, .int .i64 F, .slice A2 M c2], .slice Ad D.length cd] w fun e w' => ansG K D w e w' := by
  obtain ⟨m, hm⟩ : ∃ m, m = D.length := ⟨_, rfl⟩
  have HM := Lib.hid hm
  rw [← hm] at hD HD ⊢
  have HIS : Hid (∀ (u : World) (z : Int), Calls Try.prog 34 #[.agg #[.slice A1 K c1, .int .i64 F, .slice A2 M c2], .int .i64 z] u fun e w' => e = .returned (.bool (stB z K)) ∧ Below u.heap.size u w') := Lib.hid (fun u z => isState_any u)
  obtain ⟨w1, hw1⟩ : ∃ w1, w1 = w.alloc (.cells #[.slice A1 K c1, .int .i64 F, .slice A2 M c2] 28) := ⟨_, rfl⟩
  have B1 : Hid (Below w.heap.size w w1) := Lib.hid (by rw [hw1]; exact below_alloc _ _)
  have K1 : Hid (Blk w1 w.heap.size 28 #[.slice A1 K c1, .int .i64 F, .slice A2 M c2]) := Lib.hid (by rw [hw1]; exact Blk.fresh _ _ _)
  have d0 : w1.cell? ⟨w.heap.size, 0, none⟩ = some (.slice A1 K c1) := K1.out.cell 0
  have hmk := made_bl K (by omega)
  clear hm
  go_enter Try.func36, Try.ntmps36
  go_upto_region 1 with fail
  rw [← hw1]
  clear hw1
  go_upto_region 2 with fail
  obtain ⟨w3, hw3⟩ : ∃ w3, w3 = (w1.alloc (.cells (bls K (fun _ => false)) 4)).alloc (.cells #[.slice (some ⟨w1.heap.size, 0, none⟩) K K, .slice none 0 0] 75) := ⟨_, rfl⟩
  have B13 : Hid (Below w1.heap.size w1 w3) := Lib.hid (by rw [hw3]; exact grows (below_alloc _ _) (below_alloc _ _))
  have C3 : Hid (crw w3 w.heap.size (w1.heap.size + 1) w1.heap.size K [] (.slice none 0 0)) := Lib.hid (by rw [hw3]; exact crw_start B1.out.size)
  have K3 : Hid (Blk w3 w.heap.size 28 #[.slice A1 K c1, .int .i64 F, .slice A2 M c2]) := Lib.hid (K1.out.below B13.out)
  have B3 : Hid (Below w.heap.size w w3) := Lib.hid (grows B1.out B13.out)
  rw [← hw3]
  clear hw3
  obtain ⟨q, hq⟩ : ∃ q, q = w1.heap.size + 1 := ⟨_, rfl⟩
  obtain ⟨mb, hmb⟩ : ∃ mb, mb = w1.heap.size := ⟨_, rfl⟩
  rw [← hq, ← hmb] at C3 ⊢
  clear hq hmb d0 hmk B13 K1 B1
  go_wp2
  go_loopw [7, 16] (fun _ s16 wr => ∃ (i : Nat) (v : Value), s16 = .int .i64 (i : Int) ∧ i ≤ m ∧ Hid (crw wr w.heap.size q mb K (gatQ K D i) v) ∧ Hid (Below w.heap.size w wr) ∧ Hid (Blk wr w.heap.size 28 #[.slice A1 K c1, .int .i64 F, .slice A2 M c2])) (fun _ s16 _ => m - (intOf s16).toNat)
  case atStart => exact ⟨0, _, rfl, by omega, C3, B3, K3⟩
  case round =>
    obtain ⟨i, v, rfl, hi, HC, HB, HK⟩ := hrel
    by_cases him : i < m
    · have him' : (i : Int) < (m : Int) := by omega
      have hi0 : (0 : Int) ≤ (i : Int) := by omega
      obtain ⟨bd, od, rfl, hbd, hcd⟩ := (HD.out.below HB.out) i him
      obtain ⟨z, hz⟩ : ∃ z, z = at0 D i := ⟨_, rfl⟩
      rw [← hz] at hcd
      have HZ : Hid (D[i]? = some z) := Lib.hid (by rw [hz]; exact at0_get (by rw [← HM.out]; exact him))
      have d0 := HK.out.cell 0
      have d1 := HK.out.cell 1
      have d2 := HK.out.cell 2
      clear hz
      cases hs : stB z K with
      | false =>
        have HS := Lib.hid hs
        clear hs
        go_wp2_with (go_at_call 34; refine (HIS.out wr z).mono ?_; rintro e w4 ⟨rfl, k4⟩; rw [HS.out]; have K4 := Lib.hid k4; clear k4)
        go_roundw
        case rel => exact ⟨i + 1, v, by go_num, by omega, Lib.hid (by rw [gatQ_next HZ.out, HS.out]; exact HC.out.below K4.out), Lib.hid (grows HB.out K4.out), Lib.hid (HK.out.below K4.out)⟩
        case measure => simp [intOf]; omega
      | true =>
        have hz2 : 0 ≤ z ∧ z < (K : Int) := by unfold stB at hs; simpa using hs
        have HS := Lib.hid hs
        clear hs
        obtain ⟨x, rfl⟩ := Int.eq_ofNat_of_zero_le hz2.1
        have HX : Hid (x < K) := Lib.hid (by have := hz2.2; omega)
        clear hz2
        go_wp2_with (first | (go_at_call 34; refine (HIS.out wr (x : Int)).mono ?_; rintro e w4 ⟨rfl, k4⟩; rw [HS.out]; have K4 := Lib.hid k4; have HC4 := Lib.hid (HC.out.below k4); clear k4) | (go_at_call 56; refine (meet_any HX.out (by omega) HC4).mono ?_; rintro e w5 ⟨rfl, v5, c5, o5⟩; have C5 := Lib.hid c5; have O5 := Lib.hid o5; clear c5 o5))
        go_roundw
        case rel => exact ⟨i + 1, v5, by go_num, by omega, Lib.hid (by rw [gatQ_next HZ.out, HS.out]; exact C5.out), Lib.hid (O5.out.below (grows HB.out K4.out) (grows HB.out K4.out).size (fun i hi => (HC4.out.lo i hi).1)), Lib.hid ((HK.out.below K4.out).only O5.out (HC4.out.apart (HK.out.below K4.out) (by decide) (by decide) (by decide)))⟩
        case measure => simp [intOf]; omega
    · obtain rfl : i = m := by omega
      have him' : ¬ (i : Int) < (i : Int) := by omega
      go_wp2
      go_ret
      exact ⟨q, mb, v, rfl, by rw [← HM.out]; exact HC.out, HB.out⟩
end Go.Proofs.Ythjelilmlbbalaa.Di
namespace Go.Proofs.Ythjelilmlbbalaa.Oa
open Go.RowKit Go.Proofs.Ythjelilmlbbalaa.Bw Go.Proofs.Ythjelilmlbbalaa.Na Go.Proofs.Ythjelilmlbbalaa.Ko Go.Proofs.Ythjelilmlbbalaa.Tm Go.Proofs.Ythjelilmlbbalaa.Tf Go.Proofs.Ythjelilmlbbalaa.Tj Go.Proofs.Ythjelilmlbbalaa.Rm Go.Proofs.Ythjelilmlbbalaa.Ra Go.Proofs.Ythjelilmlbbalaa.An Go.Proofs.Ythjelilmlbbalaa.Ac Go.Proofs.Ythjelilmlbbalaa.Aa Go.Proofs.Ythjelilmlbbalaa.Ax Go.Proofs.Ythjelilmlbbalaa.Di

set_option maxHeartbeats 8000000 in
set_option maxRecDepth 100000 in
theorem Right_any {A : Au} (hE : A.E.length ≤ 1000000) (hM : A.R.length ≤ 1000000) (hrow : ∀ l ∈ A.E, l.length ≤ 1000000) {A1 A2 : Option Addr} {c1 c2 : Nat} {w : World} (H : Hid (nfa w A1 A2 A)) :
    Calls Try.prog 14 #[.agg #[.slice A1 A.E.length c1, .int .i64 A.first, .slice A2 A.R.length c2]] w fun e w' => ansB (okA A) w e w' := by
  have HROW := Lib.hid hrow
  obtain ⟨K, hK⟩ : ∃ K, K = A.E.length := ⟨_, rfl⟩
  obtain ⟨M, hMM⟩ : ∃ M, M = A.R.length := ⟨_, rfl⟩
  obtain ⟨F, hF⟩ : ∃ F, F = A.first := ⟨_, rfl⟩
  have HKE := Lib.hid hK
  have HME := Lib.hid hMM
  have HFE := Lib.hid hF
  rw [← hK] at hE ⊢
  rw [← hMM] at hM ⊢
  rw [← hF]
  obtain ⟨w1, hw1⟩ : ∃ w1, w1 = w.alloc (.cells #[.slice A1 K c1, .int .i64 F, .slice A2 M c2] 28) := ⟨_, rfl⟩
  have B1 : Hid (Below w.heap.size w w1) := Lib.hid (by rw [hw1]; exact below_alloc _ _)
  have K1 : Hid (Blk w1 w.heap.size 28 #[.slice A1 K c1, .int .i64 F, .slice A2 M c2]) := Lib.hid (by rw [hw1]; exact Blk.fresh _ _ _)
  have d0 : w1.cell? ⟨w.heap.size, 0, none⟩ = some (.slice A1 K c1) := K1.out.cell 0
  have d1 : w1.cell? ⟨w.heap.size, 1, none⟩ = some (.int .i64 F) := K1.out.cell 1
  have d2 : w1.cell? ⟨w.heap.size, 2, none⟩ = some (.slice A2 M c2) := K1.out.cell 2
  have HIS : Hid (∀ (u : World) (z : Int), Calls Try.prog 34 #[.agg #[.slice A1 K c1, .int .i64 F, .slice A2 M c2], .int .i64 z] u fun e w' => e = .returned (.bool (stB z K)) ∧ Below u.heap.size u w') := Lib.hid (fun u z => isState_any u)
  clear hK hMM hF hrow
  by_cases h2 : 3000 < K
  · have g2 : (3000 : Int) < (K : Int) := by omega
    have HX : Hid (¬ okA A) := Lib.hid (fun k => by have := k.hi; have := HKE.out; omega)
    clear h2
    go_enter Try.func14, Try.ntmps14
    go_upto_region 1 with fail
    rw [← hw1]
    clear hw1
    go_wp2
    go_ret
    exact ⟨_, rfl, not_iff_false HX.out, B1.out⟩
  · have g2 : ¬ (3000 : Int) < (K : Int) := by omega
    have H2 := Lib.hid h2
    by_cases h3 : M = K
    · subst h3
      cases hs : stB F M with
      | false =>
        have HS := Lib.hid hs
        have HX : Hid (¬ okA A) := Lib.hid (fun k => by
          have h4 := k.f0; have h5 := k.f1
          rw [← HFE.out] at h4 h5
          rw [← HKE.out] at h5
          unfold stB at hs
          simp at hs
          have := hs h4
          omega)
        clear h2 hs
        go_enter Try.func14, Try.ntmps14
        go_upto_region 1 with fail
        rw [← hw1]
        clear hw1
        go_wp2_with (go_at_call 34; refine (HIS.out w1 F).mono ?_; rintro e w4 ⟨rfl, k4⟩; rw [HS.out]; have B4 := Lib.hid (grows B1.out k4); clear k4)
        go_ret
        exact ⟨_, rfl, not_iff_false HX.out, B4.out⟩
      | true =>
        have HS := Lib.hid hs
        have HFM : Hid (0 ≤ F ∧ F < (M : Int)) := Lib.hid (by unfold stB at hs; simpa using hs)
        clear h2 hs
        go_enter Try.func14, Try.ntmps14
        go_upto_region 1 with fail
        rw [← hw1]
        clear hw1
        go_wp2_with (go_at_call 34; refine (HIS.out w1 F).mono ?_; rintro e w4 ⟨rfl, k4⟩; rw [HS.out]; have B4 := Lib.hid (grows B1.out k4); have K4 := Lib.hid (K1.out.below k4); have d42 := (K1.out.below k4).cell 2; clear k4)
        clear d0 d1 d2 d42 g2
        go_loopw [4, 32] (fun _ s32 wr => ∃ i : Nat, s32 = .int .i64 (i : Int) ∧ i ≤ M ∧ Hid (∀ a, a < i → -1 ≤ at0 A.R a ∧ at0 A.R a ≤ 31) ∧ Hid (Below w4.heap.size w4 wr)) (fun _ s32 _ => M - (intOf s32).toNat)
        case atStart => exact ⟨0, rfl, by omega, Lib.hid (fun a ha => absurd ha (by omega)), Lib.hid (Below.refl _ _)⟩
        case round =>
          obtain ⟨i, rfl, hi, HA, HB⟩ := hrel
          have HBW := Lib.hid (grows B4.out HB.out)
          by_cases hiN : i < M
          · have hiN' : (i : Int) < (M : Int) := by omega
            have hi0 : (0 : Int) ≤ (i : Int) := by omega
            have HIN := Lib.hid hiN
            obtain ⟨b2, o2, rfl, hb2, hr⟩ := (H.out.r.below HBW.out) i (by rw [← HME.out]; exact hiN)
            obtain ⟨r, hre⟩ : ∃ r, r = at0 A.R i := ⟨_, rfl⟩
            rw [← hre] at hr
            have HRE := Lib.hid hre
            have HRM : Hid (r ∈ A.R) := Lib.hid (by rw [hre]; exact List.mem_of_getElem? (at0_get (l := A.R) (i := i) (by rw [← HME.out]; exact hiN)))
            clear hre hb2 hiN
            by_cases q1 : r < -1
            · have HX : Hid (¬ okA A) := Lib.hid (fun k => by have := k.r _ HRM.out; omega)
              go_wp2
              go_ret
              exact ⟨_, rfl, not_iff_false HX.out, HBW.out⟩
            · by_cases q2 : 32 ≤ r
              · have HX : Hid (¬ okA A) := Lib.hid (fun k => by have := k.r _ HRM.out; omega)
                go_wp2
                go_ret
                exact ⟨_, rfl, not_iff_false HX.out, HBW.out⟩
              · have HNX : Hid (∀ a, a < i + 1 → -1 ≤ at0 A.R a ∧ at0 A.R a ≤ 31) := Lib.hid (fun a ha => by
                  rcases (show a < i ∨ a = i by omega) with h | rfl
                  · exact HA.out a h
                  · rw [← HRE.out]; omega)
                go_wp2
                go_roundw
                case rel => exact ⟨i + 1, by go_num, by have := HIN.out; omega, HNX, HB⟩
                case measure => have := HIN.out; simp [intOf]; omega
          · obtain rfl : i = M := by omega
            have hiN' : ¬ (i : Int) < (i : Int) := by omega
            have KR := Lib.hid (K4.out.below HB.out)
            have d0 := KR.out.cell 0
            have HB4 := HB
            obtain ⟨w5, hw5⟩ : ∃ w5, w5 = wr := ⟨_, rfl⟩
            have HW5 := Lib.hid hw5
            clear hiN hw5
            go_wp2
            go_loopw [6, 46] (fun _ s46 wz => ∃ p : Nat, s46 = .int .i64 (p : Int) ∧ p ≤ i ∧ Hid (∀ a, a < p → ∀ l, A.E[a]? = some l → ∀ e ∈ l, okE i e) ∧ Hid (Below wr.heap.size wr wz)) (fun _ s46 _ => i - (intOf s46).toNat)
            case atStart => exact ⟨0, rfl, by omega, Lib.hid (fun a ha => absurd ha (by omega)), Lib.hid (Below.refl _ _)⟩
            case round =>
              obtain ⟨p, rfl, hp, HP, HC⟩ := hrel
              have HBZ := Lib.hid (grows HBW.out HC.out)
              have KZ := Lib.hid (KR.out.below HC.out)
              by_cases hpN : p < i
              · have hpN' : (p : Int) < (i : Int) := by omega
                have hp0 : (0 : Int) ≤ (p : Int) := by omega
                have HPN := Lib.hid hpN
                obtain ⟨l, hl⟩ : ∃ l, A.E[p]? = some l := ⟨_, List.getElem?_eq_getElem (by rw [← HKE.out]; exact hpN)⟩
                have HL := Lib.hid hl
                obtain ⟨b1, o1, rfl, hb1, A', c', hrw, hlc, hed⟩ := (H.out.e.below HBZ.out) p l hl
                have HED := Lib.hid hed
                have hll : l.length ≤ 1000000 := HROW.out l (List.mem_of_getElem? hl)
                have HLM := Lib.hid (List.mem_of_getElem? hl)
                obtain ⟨X, hX⟩ : ∃ X, X = l.length := ⟨_, rfl⟩
                have HXL := Lib.hid hX
                rw [← hX] at hrw hll
                clear hX hlc hl hpN hed hb1
                go_wp2
                clear hrw
                go_loopw [8, 52] (fun _ s52 wy => ∃ j : Nat, s52 = .int .i64 (j : Int) ∧ j ≤ X ∧ Hid (∀ b e, b < j → l[b]? = some e → okE i e) ∧ Hid (Below wr.heap.size wr wy)) (fun _ s52 _ => X - (intOf s52).toNat)
                case atStart => exact ⟨0, rfl, by omega, Lib.hid (fun b e hb => absurd hb (by omega)), Lib.hid (Below.refl _ _)⟩
                case round =>
                  obtain ⟨j, rfl, hj, HZ, HD⟩ := hrel
                  by_cases hjn : j < X
                  · have hjn' : (j : Int) < (X : Int) := by omega
                    have hj0 : (0 : Int) ≤ (j : Int) := by omega
                    have HJN := Lib.hid hjn
                    obtain ⟨x, hx⟩ : ∃ x, l[j]? = some x := ⟨_, List.getElem?_eq_getElem (by rw [← HXL.out]; exact hjn)⟩
                    obtain ⟨b3, o3, rfl, hb3, hpp⟩ := (HED.out.below HD.out) j x hx
                    have HXM := Lib.hid (List.mem_of_getElem? hx)
                    have HXX := Lib.hid hx
                    have e0 := hpp.c0
                    have e1 := hpp.c1
                    obtain ⟨x0, x1, x2, x3, hs4, e2, e3, e4, e5⟩ := hpp.four
                    obtain ⟨xt, xf, xs⟩ := x
                    dsimp only at e0 e1 hs4
                    subst hs4
                    have KY := Lib.hid (KZ.out.below HD.out)
                    obtain ⟨w6, hw6⟩ : ∃ w6, w6 = wr.alloc (.cells #[.int .i64 xt, .bool xf, .int .u64 (x0 : Int), .int .u64 (x1 : Int), .int .u64 (x2 : Int), .int .u64 (x3 : Int)] 66) := ⟨_, rfl⟩
                    have B6 : Hid (Below wr.heap.size wr w6) := Lib.hid (by rw [hw6]; exact below_alloc _ _)
                    have K6 : Hid (Blk w6 wr.heap.size 66 #[.int .i64 xt, .bool xf, .int .u64 (x0 : Int), .int .u64 (x1 : Int), .int .u64 (x2 : Int), .int .u64 (x3 : Int)]) := Lib.hid (by rw [hw6]; exact Blk.fresh _ _ _)
                    have KN := Lib.hid (KY.out.below B6.out)
                    obtain ⟨be, hbe⟩ : ∃ be, be = wr.heap.size := ⟨_, rfl⟩
                    have HBE := Lib.hid hbe
                    have hw6' : wr.alloc (.cells #[.int .i64 xt, .bool xf, .int .u64 (x0 : Int), .int .u64 (x1 : Int), .int .u64 (x2 : Int), .int .u64 (x3 : Int)] 66) = w6 := hw6.symm
                    rw [← hbe] at K6
                    clear hx hpp hb3 hjn hw6
                    go_upto_region 15 with fail
                    rw [← hbe]
                    clear hw6' hbe e0 e1 e2 e3 e4 e5
                    have d0 := KN.out.cell 0
                    have d1 := KN.out.cell 1
                    have d2 := KN.out.cell 2
                    have k0 := K6.out.cell 0
                    have HB6 : Hid (Below w.heap.size w w6) := Lib.hid (grows (grows HBZ.out HD.out) B6.out)
                    cases hst : stB xt i with
                    | false =>
                      have HX : Hid (¬ okA A) := Lib.hid (fun k => by
                        have h4 := (k.e l HLM.out _ HXM.out).1
                        have h5 := (k.e l HLM.out _ HXM.out).2.1
                        simp only at h4 h5
                        rw [← HKE.out] at h5
                        unfold stB at hst
                        simp at hst
                        have := hst h4
                        omega)
                      have HS2 := Lib.hid hst
                      clear hst
                      go_wp2_with (go_at_call 34; refine (HIS.out w6 xt).mono ?_; rintro e w7 ⟨rfl, k7⟩; rw [HS2.out]; have B7 := Lib.hid (grows HB6.out k7); clear k7)
                      go_ret
                      exact ⟨_, rfl, not_iff_false HX.out, B7.out⟩
                    | true =>
                      have HTT : Hid (0 ≤ xt ∧ xt < (i : Int)) := Lib.hid (by unfold stB at hst; simpa using hst)
                      have HS2 := Lib.hid hst
                      clear hst
                      cases xf with
                      | false =>
                        have HNX : Hid (∀ b e, b < j + 1 → l[b]? = some e → okE i e) := Lib.hid (fun b e hb he => by
                          rcases (show b < j ∨ b = j by omega) with h | rfl
                          · exact HZ.out b e h he
                          · rw [HXX.out] at he
                            obtain rfl := Option.some.inj he
                            exact ⟨HTT.out.1, HTT.out.2, fun h => by cases h⟩)
                        go_wp2_with (go_at_call 34; refine (HIS.out w6 xt).mono ?_; rintro e w7 ⟨rfl, k7⟩; rw [HS2.out]; have B7 := Lib.hid (grows (grows HD.out B6.out) k7); have m1 := (K6.out.below k7).cell 1; clear k7)
                        go_roundw
                        case rel => exact ⟨j + 1, by go_num, by have := HJN.out; omega, HNX, B7⟩
                        case measure => have := HJN.out; simp [intOf]; omega
                      | true =>
                        by_cases hz : ([x0, x1, x2, x3] : List Nat) = zero
                        · have heq : ∀ u, (Op.equalIn 10000 64 (.agg #[.int .u64 (x0 : Int), .int .u64 (x1 : Int), .int .u64 (x2 : Int), .int .u64 (x3 : Int)]) (.agg #[.int .u64 0, .int .u64 0, .int .u64 0, .int .u64 0])).run Try.prog u = .ok true u := fun u => by
                            simp [zero] at hz
                            obtain ⟨z0, z1, z2, z3⟩ := hz
                            subst z0; subst z1; subst z2; subst z3
                            exact eq_same _ _ _ _ u
                          have HZZ := Lib.hid hz
                          have HNX : Hid (∀ b e, b < j + 1 → l[b]? = some e → okE i e) := Lib.hid (fun b e hb he => by
                            rcases (show b < j ∨ b = j by omega) with h | rfl
                            · exact HZ.out b e h he
                            · rw [HXX.out] at he
                              obtain rfl := Option.some.inj he
                              exact ⟨HTT.out.1, HTT.out.2, fun _ => HZZ.out⟩)
                          clear hz
                          go_wp2_with (go_at_call 34; refine (HIS.out w6 xt).mono ?_; rintro e w7 ⟨rfl, k7⟩; rw [HS2.out]; have B7 := Lib.hid (grows (grows HD.out B6.out) k7); have m1 := (K6.out.below k7).cell 1; have m2 := (K6.out.below k7).cell 2; have m3 := (K6.out.below k7).cell 3; have m4 := (K6.out.below k7).cell 4; have m5 := (K6.out.below k7).cell 5; clear k7)
                          go_roundw
                          case rel => exact ⟨j + 1, by go_num, by have := HJN.out; omega, HNX, B7⟩
                          case measure => have := HJN.out; simp [intOf]; omega
                        · have heq : ∀ u, (Op.equalIn 10000 64 (.agg #[.int .u64 (x0 : Int), .int .u64 (x1 : Int), .int .u64 (x2 : Int), .int .u64 (x3 : Int)]) (.agg #[.int .u64 0, .int .u64 0, .int .u64 0, .int .u64 0])).run Try.prog u = .ok false u := fun u => eq_not (y0 := 0) (y1 := 0) (y2 := 0) (y3 := 0) hz u
                          have HX : Hid (¬ okA A) := Lib.hid (fun k => hz ((k.e l HLM.out _ HXM.out).2.2 rfl))
                          clear hz
                          go_wp2_with (go_at_call 34; refine (HIS.out w6 xt).mono ?_; rintro e w7 ⟨rfl, k7⟩; rw [HS2.out]; have B7 := Lib.hid (grows HB6.out k7); have m1 := (K6.out.below k7).cell 1; have m2 := (K6.out.below k7).cell 2; have m3 := (K6.out.below k7).cell 3; have m4 := (K6.out.below k7).cell 4; have m5 := (K6.out.below k7).cell 5; clear k7)
                          go_ret
                          exact ⟨_, rfl, not_iff_false HX.out, B7.out⟩
                  · have hjn' : ¬ (j : Int) < (X : Int) := by omega
                    have HJX : Hid (j = X) := Lib.hid (by omega)
                    have HNX : Hid (∀ a, a < p + 1 → ∀ l, A.E[a]? = some l → ∀ e ∈ l, okE i e) := Lib.hid (fun a ha => by
                      rcases (show a < p ∨ a = p by omega) with h | rfl
                      · exact HP.out a h
                      · intro l' hl' e he
                        rw [HL.out] at hl'
                        obtain rfl := Option.some.inj hl'
                        obtain ⟨b, hb⟩ := List.mem_iff_getElem?.1 he
                        exact HZ.out b e (by have := (List.getElem?_eq_some_iff.1 hb).1; have := HXL.out; have := HJX.out; omega) hb)
                    clear hjn hj
                    go_wp2
                    go_roundw
                    case rel => exact ⟨p + 1, by go_num, by have := HPN.out; omega, HNX, Lib.hid (grows HC.out HD.out)⟩
                    case measure => have := HPN.out; simp [intOf]; omega
              · have hpN' : ¬ (p : Int) < (i : Int) := by omega
                have HX : Hid (okA A) := Lib.hid (okA_of (by have := HFM.out; have := HKE.out; omega) (by have := H2.out; have := HKE.out; omega) (by rw [← HME.out, ← HKE.out]) (by rw [← HFE.out]; exact HFM.out.1) (by rw [← HFE.out, ← HKE.out]; exact HFM.out.2) (fun a ha => by rw [← HKE.out] at ha ⊢; exact ⟨HA.out a ha, HP.out a (by omega)⟩))
                clear hpN
                go_wp2
                go_ret
                exact ⟨_, rfl, is_iff_true HX.out, HBZ.out⟩
    · have g3 : ((M : Int) == (K : Int)) = false := by rw [beq_eq_false_iff_ne]; omega
      have g3' : ((M : Int) != (K : Int)) = true := by rw [bne_iff_ne]; omega
      have HX : Hid (¬ okA A) := Lib.hid (fun k => by have := k.rl; have := HKE.out; have := HME.out; omega)
      clear h2 h3
      go_enter Try.func14, Try.ntmps14
      go_upto_region 1 with fail
      rw [← hw1]
      clear hw1
      go_wp2
      go_ret
      exact ⟨_, rfl, not_iff_false HX.out, B1.out⟩
end Go.Proofs.Ythjelilmlbbalaa.Oa
namespace Go.Proofs.Ythjelilmlbbalaa.Ob
open Go.RowKit Go.Proofs.Ythjelilmlbbalaa.Vm Go.Proofs.Ythjelilmlbbalaa.Vo Go.Proofs.Ythjelilmlbbalaa.Bw Go.Proofs.Ythjelilmlbbalaa.Na Go.Proofs.Ythjelilmlbbalaa.Ko Go.Proofs.Ythjelilmlbbalaa.Ed Go.Proofs.Ythjelilmlbbalaa.Tm Go.Proofs.Ythjelilmlbbalaa.Tf Go.Proofs.Ythjelilmlbbalaa.Rm Go.Proofs.Ythjelilmlbbalaa.Ra Go.Proofs.Ythjelilmlbbalaa.Am Go.Proofs.Ythjelilmlbbalaa.An Go.Proofs.Ythjelilmlbbalaa.Ac Go.Proofs.Ythjelilmlbbalaa.Aa Go.Proofs.Ythjelilmlbbalaa.Ab Go.Proofs.Ythjelilmlbbalaa.Da Go.Proofs.Ythjelilmlbbalaa.Db Go.Proofs.Ythjelilmlbbalaa.Dg Go.Proofs.Ythjelilmlbbalaa.Dh Go.Proofs.Ythjelilmlbbalaa.Di

/-- What is known of a crowd that is being closed: D; of its first i the Free edges have been followed. -/
structure clq (E : List (List Eg)) (L D : List Int) (i : Nat) : Prop where
  c1 : ∀ x ∈ L, x ∈ D
  c2 : ∀ p : Nat, (p : Int) ∈ D → clo E (fun p => (p : Int) ∈ L) p
  c3 : ∀ a (p q : Nat), a < i → D[a]? = some (p : Int) → fre E p q → (q : Int) ∈ D
theorem clq_start {E : List (List Eg)} {L : List Int} (h : ∀ x ∈ L, 0 ≤ x ∧ x < (E.length : Int)) : clq E L L 0 where
  c1 := fun _ h => h
  c2 := fun p hp => clo_of hp (by have := h _ hp; omega)
  c3 := fun a p q h => absurd h (by omega)
/-- .. within a state's edges. -/
structure clj (E : List (List Eg)) (L D : List Int) (i : Nat) (l : List Eg) (j : Nat) (D' : List Int) : Prop where
  q : clq E L D' i
  p : ∃ X, D' = D ++ X
  e : ∀ b e, b < j → l[b]? = some e → e.free = true → e.to ∈ D'
theorem addQ_app (L : List Int) (x : Int) : ∃ X, addQ L x = L ++ X := by
  unfold addQ
  split
  · exact ⟨[], by simp⟩
  · exact ⟨[x], rfl⟩
theorem get_app {L X : List Int} {a : Nat} {x : Int} (h : L[a]? = some x) : (L ++ X)[a]? = some x := by
  rw [List.getElem?_append_left (List.getElem?_eq_some_iff.1 h).1]; exact h
section
variable {E : List (List Eg)} {L D D' : List Int} {i j p : Nat} {l : List Eg} {e : Eg}
theorem clj_no (h : clj E L D i l j D') (he : l[j]? = some e) (hf : e.free = false) : clj E L D i l (j + 1) D' :=
  ⟨h.q, h.p, fun b e' hb he' hf' => by
    rcases (show b < j ∨ b = j by omega) with k | rfl
    · exact h.e b e' k he' hf'
    · rw [he] at he'
      obtain rfl := Option.some.inj he'
      rw [hf] at hf'; cases hf'⟩
theorem clj_yes (h : clj E L D i l j D') (he : l[j]? = some e) (hf : e.free = true) (hp : (p : Int) ∈ D) (hl : E[p]? = some l) {x : Nat} (hx : e.to = (x : Int)) (hin : i ≤ D'.length) : clj E L D i l (j + 1) (addQ D' (x : Int)) := by
  obtain ⟨X, hX⟩ := h.p
  obtain ⟨Y, hY⟩ := addQ_app D' (x : Int)
  have hm : ∀ y, y ∈ addQ D' (x : Int) ↔ y = (x : Int) ∨ y ∈ D' := fun y => addQ_mem
  refine ⟨⟨fun y hy => (hm y).2 (.inr (h.q.c1 y hy)), fun r hr => ?_, fun a r s ha hr hs => ?_⟩, ⟨X ++ Y, by rw [hY, hX, List.append_assoc]⟩, fun b e' hb he' hf' => ?_⟩
  · rcases (hm _).1 hr with k | k
    · obtain rfl : r = x := by omega
      exact clo_step (h.q.c2 p (by rw [hX]; exact List.mem_append_left _ hp)) ⟨l, e, hl, List.mem_of_getElem? he, hf, hx⟩
    · exact h.q.c2 r k
  · rw [hY, List.getElem?_append_left (by omega)] at hr
    exact (hm _).2 (.inr (h.q.c3 a r s ha hr hs))
  · rcases (show b < j ∨ b = j by omega) with k | rfl
    · exact (hm _).2 (.inr (h.e b e' k he' hf'))
    · rw [he] at he'
      obtain rfl := Option.some.inj he'
      exact (hm _).2 (.inl hx)
theorem clj_end (h : clj E L D i l l.length D') (hp : D[i]? = some (p : Int)) (hl : E[p]? = some l) : clq E L D' (i + 1) := by
  obtain ⟨X, hX⟩ := h.p
  refine ⟨h.q.c1, h.q.c2, fun a r s ha hr hs => ?_⟩
  rcases (show a < i ∨ a = i by omega) with k | rfl
  · exact h.q.c3 a r s k hr hs
  · rw [hX, get_app hp] at hr
    obtain rfl : p = r := by have := Option.some.inj hr; omega
    obtain ⟨l', e, h1, h2, h3, h4⟩ := hs
    rw [hl] at h1
    obtain rfl := Option.some.inj h1
    obtain ⟨b, hb⟩ := List.mem_iff_getElem?.1 h2
    have := h.e b e (List.getElem?_eq_some_iff.1 hb).1 hb h3
    rw [h4] at this
    exact this
theorem clq_done (h : clq E L D D.length) (hn : D.Nodup) (hr : ∀ x ∈ D, 0 ≤ x ∧ x < (E.length : Int)) : isL (srt D) (clo E (fun p => (p : Int) ∈ L)) := by
  refine ⟨srt_asc hn, fun x => ?_⟩
  rw [srt_mem]
  constructor
  · intro hx
    have := hr x hx
    obtain ⟨q, rfl⟩ := Int.eq_ofNat_of_zero_le this.1
    exact ⟨q, rfl, h.c2 q hx⟩
  · rintro ⟨q, rfl, p, h1, _, h3⟩
    have key : ∀ a b, RT (fre E) a b → (a : Int) ∈ D → (b : Int) ∈ D := fun a b r ha => by
      induction r with
      | refl => exact ha
      | step h1 _ ih =>
        refine ih ?_
        obtain ⟨c, hc⟩ := List.mem_iff_getElem?.1 ha
        exact h.c3 c _ _ (List.getElem?_eq_some_iff.1 hc).1 hc h1
    exact key p q h3 (h.c1 _ h1)
end
/-- What closed answers. -/
def ansK (A : Au) (L : List Int) (w0 : World) (e : Ending) (w' : World) : Prop := ∃ v C, e = .returned v ∧ ints w' w0.heap.size 3 v C ∧ isL C (clo A.E (fun p => (p : Int) ∈ L)) ∧ Below w0.heap.size w0 w'
set_option maxHeartbeats 4000000 in
set_option maxRecDepth 100000 in
theorem closed_any {A : Au} (hok : okA A) (hrow : ∀ l ∈ A.E, l.length ≤ 1000000) {A1 A2 : Option Addr} {c1 c2 q mb : Nat} {L : List Int} {v : Value} {w0 w : World} (H : Hid (nfa w0 A1 A2 A)) (HB : Hid (Below w0.heap.size w0 w)) (HC : Hid (crw w w0.heap.size q mb A.E.length L v)) :
    Calls Try.prog 35 #[nv A1 A2 c1 c2 A, .pointer (some ⟨q, 0, none⟩)] w fun e w' => ansK A L w0 e w' := by
  unfold nv
  have HOK := Lib.hid hok
  have HROW := Lib.hid hrow
  obtain ⟨K, hK⟩ : ∃ K, K = A.E.length := ⟨_, rfl⟩
  obtain ⟨M, hMM⟩ : ∃ M, M = A.R.length := ⟨_, rfl⟩
  obtain ⟨F, hF⟩ : ∃ F, F = A.first := ⟨_, rfl⟩
  have HKE := Lib.hid hK
  have hK3 : K ≤ 3000 := by rw [hK]; exact hok.hi
  rw [← hK] at HC ⊢
  rw [← hMM, ← hF]
  obtain ⟨w1, hw1⟩ : ∃ w1, w1 = w.alloc (.cells #[.slice A1 K c1, .int .i64 F, .slice A2 M c2] 28) := ⟨_, rfl⟩
  have B1 : Hid (Below w.heap.size w w1) := Lib.hid (by rw [hw1]; exact below_alloc _ _)
  have K1 : Hid (Blk w1 w.heap.size 28 #[.slice A1 K c1, .int .i64 F, .slice A2 M c2]) := Lib.hid (by rw [hw1]; exact Blk.fresh _ _ _)
  have C1 := Lib.hid (HC.out.below B1.out)
  have W1 : Hid (Below w0.heap.size w0 w1) := Lib.hid (grows HB.out B1.out)
  have HQ0 : Hid (clq A.E L L 0) := Lib.hid (clq_start (by rw [← hK]; exact HC.out.r))
  obtain ⟨bb, hbb⟩ : ∃ bb, bb = w.heap.size := ⟨_, rfl⟩
  rw [← hbb] at K1
  clear hK hMM hF hok hrow
  go_enter Try.func35, Try.ntmps35
  go_upto_region 1 with fail
  rw [← hw1, ← hbb]
  clear hw1 hbb
  go_wp2
  go_loopw [5, 7, 29] (fun s5 _ _ wr => ∃ (i : Nat) (D : List Int) (v : Value), s5 = .int .i64 (i : Int) ∧ i ≤ D.length ∧ Hid (crw wr w0.heap.size q mb K D v) ∧ Hid (clq A.E L D i) ∧ Hid (Below w0.heap.size w0 wr) ∧ Hid (Blk wr bb 28 #[.slice A1 K c1, .int .i64 F, .slice A2 M c2])) (fun s5 _ _ _ => K - (intOf s5).toNat)
  case atStart => exact ⟨0, L, v, rfl, Nat.zero_le _, C1, HQ0, W1, K1⟩
  case round =>
    obtain ⟨i, D, v, rfl, hi, HCR, HQ, HBW, HKB⟩ := hrel
    have hDK := HCR.out.len
    obtain ⟨A3, c3, hv, _⟩ := HCR.out.l.le
    obtain ⟨n, hn⟩ : ∃ n, n = D.length := ⟨_, rfl⟩
    rw [← hn] at hv hi hDK
    have HN := Lib.hid hn
    subst hv
    have e1 := HCR.out.b.cell 1
    have d0 := HKB.out.cell 0
    by_cases hin : i < n
    · have hin' : (i : Int) < (n : Int) := by omega
      have hi0 : (0 : Int) ≤ (i : Int) := by omega
      have HIN := Lib.hid hin
      obtain ⟨z, hz⟩ : ∃ z, D[i]? = some z := ⟨_, List.getElem?_eq_getElem (by rw [← hn]; exact hin)⟩
      have hzr := HCR.out.r z (List.mem_of_getElem? hz)
      obtain ⟨p, rfl⟩ := Int.eq_ofNat_of_zero_le hzr.1
      have hpK : p < K := by have := hzr.2; omega
      have hpK' : (p : Int) < (K : Int) := by omega
      have hp0 : (0 : Int) ≤ (p : Int) := by omega
      have HZ := Lib.hid hz
      obtain ⟨g3, rfl, hg3, hc3⟩ := (vs_of_ints HCR.out.l).cell (j := i) (x := .int .i64 (p : Int)) (by rw [Is_get, hz]; rfl)
      obtain ⟨l, hl⟩ : ∃ l, A.E[p]? = some l := ⟨_, List.getElem?_eq_getElem (by rw [← HKE.out]; exact hpK)⟩
      have HL := Lib.hid hl
      have hll : l.length ≤ 1000000 := HROW.out l (List.mem_of_getElem? hl)
      obtain ⟨b1, o1, rfl, hb1, A', c', hrw0, _, hed⟩ := H.out.e p l hl
      have hrw := (HBW.out.cell (p := ⟨b1, o1 + p, none⟩) hb1).trans hrw0
      have HED := Lib.hid hed
      obtain ⟨X, hX⟩ : ∃ X, X = l.length := ⟨_, rfl⟩
      have HX := Lib.hid hX
      rw [← hX] at hrw hll
      clear hn hX hl hed hz hzr hpK hin hg3 hb1 hrw0
      go_upto_region 4 with fail
      go_quiet (fail)
      obtain ⟨wq, hwq⟩ : ∃ wq, wq = wr.drewN nq := ⟨_, rfl⟩
      have BQ : Hid (Below w0.heap.size w0 wq) := Lib.hid (by rw [hwq]; exact Aw.below_drews HBW.out _)
      have CQ : Hid (crw wq w0.heap.size q mb K D (.slice (some ⟨g3, 0, none⟩) n c3)) := Lib.hid (by rw [hwq]; exact HCR.out.below (below_draws _ _))
      have KQ : Hid (Blk wq bb 28 #[.slice (some ⟨b1, o1, none⟩) K c1, .int .i64 F, .slice A2 M c2]) := Lib.hid (by rw [hwq]; exact HKB.out.draws _)
      rw [← hwq]
      clear hwq e1 d0 hc3 hrw
      go_wp2
      go_loopw [7, 29] (fun _ s29 wz => ∃ (j : Nat) (D' : List Int) (v' : Value), s29 = .int .i64 (j : Int) ∧ j ≤ X ∧ Hid (crw wz w0.heap.size q mb K D' v') ∧ Hid (clj A.E L D i l j D') ∧ Hid (Below w0.heap.size w0 wz) ∧ Hid (Blk wz bb 28 #[.slice (some ⟨b1, o1, none⟩) K c1, .int .i64 F, .slice A2 M c2])) (fun _ s29 _ => X - (intOf s29).toNat)
      case atStart => exact ⟨0, D, _, rfl, Nat.zero_le _, CQ, Lib.hid ⟨HQ.out, ⟨[], by simp⟩, fun b e h => absurd h (by omega)⟩, BQ, KQ⟩
      case round =>
        obtain ⟨j, D', v', rfl, hj, HCZ, HJ, HBZ, HKZ⟩ := hrel
        by_cases hjn : j < X
        · have hjn' : (j : Int) < (X : Int) := by omega
          have hj0 : (0 : Int) ≤ (j : Int) := by omega
          obtain ⟨x, hx⟩ : ∃ x, l[j]? = some x := ⟨_, List.getElem?_eq_getElem (by rw [← HX.out]; exact hjn)⟩
          have HXX := Lib.hid hx
          obtain ⟨b3, o3, rfl, hb3, hpp⟩ := (HED.out.below HBZ.out) j x hx
          have e0 := hpp.c0
          have e1 := hpp.c1
          have hxe := HOK.out.e l (List.mem_of_getElem? HL.out) x (List.mem_of_getElem? hx)
          obtain ⟨x0, x1, x2, x3, hs4, e2, e3, e4, e5⟩ := hpp.four
          obtain ⟨xt, xf, xs⟩ := x
          dsimp only at e0 e1 hs4 hxe
          subst hs4
          obtain ⟨y, rfl⟩ := Int.eq_ofNat_of_zero_le hxe.1
          have HY : Hid (y < K) := Lib.hid (by have := hxe.2.1; rw [HKE.out]; omega)
          obtain ⟨w6, hw6⟩ : ∃ w6, w6 = wr.alloc (.cells #[.int .i64 (y : Int), .bool xf, .int .u64 (x0 : Int), .int .u64 (x1 : Int), .int .u64 (x2 : Int), .int .u64 (x3 : Int)] 66) := ⟨_, rfl⟩
          have B6 : Hid (Below wr.heap.size wr w6) := Lib.hid (by rw [hw6]; exact below_alloc _ _)
          have K6 : Hid (Blk w6 wr.heap.size 66 #[.int .i64 (y : Int), .bool xf, .int .u64 (x0 : Int), .int .u64 (x1 : Int), .int .u64 (x2 : Int), .int .u64 (x3 : Int)]) := Lib.hid (by rw [hw6]; exact Blk.fresh _ _ _)
          obtain ⟨be, hbe⟩ : ∃ be, be = wr.heap.size := ⟨_, rfl⟩
          have hw6' : wr.alloc (.cells #[.int .i64 (y : Int), .bool xf, .int .u64 (x0 : Int), .int .u64 (x1 : Int), .int .u64 (x2 : Int), .int .u64 (x3 : Int)] 66) = w6 := hw6.symm
          rw [← hbe] at K6
          have C6 := Lib.hid (HCZ.out.below B6.out)
          have KB6 := Lib.hid (HKZ.out.below B6.out)
          have BB6 := Lib.hid (grows HBZ.out B6.out)
          have HJN := Lib.hid hjn
          clear hx hpp hb3 hjn hw6 hxe
          go_upto_region 7 with fail
          rw [← hbe]
          clear hw6' hbe e0 e1 e2 e3 e4 e5
          have k0 := K6.out.cell 0
          have k1 := K6.out.cell 1
          cases xf with
          | false =>
            go_wp2
            go_roundw
            case rel => exact ⟨j + 1, D', v', by go_num, by have := HJN.out; omega, C6, Lib.hid (clj_no HJ.out HXX.out rfl), BB6, KB6⟩
            case measure => have := HJN.out; simp [intOf]; omega
          | true =>
            go_wp2_with (go_at_call 56; refine (meet_any HY.out (by omega) C6).mono ?_; rintro e w7 ⟨rfl, v7, c7, o7⟩; have C7 := Lib.hid c7; have O7 := Lib.hid o7; clear c7 o7)
            go_roundw
            case rel =>
              have hDl : i ≤ D'.length := by
                obtain ⟨Y, hY⟩ := HJ.out.p
                rw [hY, List.length_append]
                have := HIN.out
                rw [HN.out] at this
                omega
              have hsz := BB6.out.size
              exact ⟨j + 1, _, v7, by go_num, by have := HJN.out; omega, C7, Lib.hid (clj_yes HJ.out HXX.out rfl (List.mem_of_getElem? HZ.out) HL.out rfl hDl), Lib.hid (O7.out.below BB6.out hsz (fun k hk => (C6.out.lo k hk).1)), Lib.hid (KB6.out.only O7.out (C6.out.apart KB6.out (by decide) (by decide) (by decide)))⟩
            case measure => have := HJN.out; simp [intOf]; omega
        · obtain rfl : j = X := by omega
          have hjn' : ¬ (j : Int) < (j : Int) := by omega
          have HQ' : Hid (clq A.E L D' (i + 1)) := Lib.hid (clj_end (by rw [← HX.out]; exact HJ.out) HZ.out HL.out)
          have hiD : i + 1 ≤ D'.length := by
            obtain ⟨Y, hY⟩ := HJ.out.p
            rw [hY, List.length_append]
            have := HIN.out
            rw [HN.out] at this
            omega
          have HID := Lib.hid hiD
          have hiK : i < K := by have := HIN.out; omega
          clear hjn hiD
          go_wp2
          go_roundw
          case rel => exact ⟨i + 1, D', v', by go_num, HID.out, HCZ, HQ', HBZ, HKZ⟩
          case measure => simp [intOf]; omega
    · obtain rfl : i = n := by omega
      have hin' : ¬ (i : Int) < (i : Int) := by omega
      have HSO := Lib.hid (sort_any (by have := HN.out; omega) HCR.out.l)
      clear hin hn
      go_wp2_with (go_at_call 57; refine HSO.out.mono ?_; rintro e w4 ⟨rfl, h4, o4⟩; have H4 := Lib.hid h4; have O4 := Lib.hid o4; have e4 := (HCR.out.b.only o4 (fun e => own_apart HCR.out.l HCR.out.b (by decide) q e rfl)).cell 1; clear h4 o4)
      go_ret
      have hsz := HBW.out.size
      exact ⟨_, _, rfl, H4.out, clq_done (by rw [← HN.out]; exact HQ.out) HCR.out.n (by rw [← HKE.out]; exact HCR.out.r), O4.out.below HBW.out hsz (fun j hj => (HCR.out.l.lo j hj).1)⟩
end Go.Proofs.Ythjelilmlbbalaa.Ob
namespace Go.Proofs.Ythjelilmlbbalaa.Oc
open Go.RowKit Go.Proofs.Ythjelilmlbbalaa.Vm Go.Proofs.Ythjelilmlbbalaa.Vo Go.Proofs.Ythjelilmlbbalaa.Bw Go.Proofs.Ythjelilmlbbalaa.Na Go.Proofs.Ythjelilmlbbalaa.Ko Go.Proofs.Ythjelilmlbbalaa.Ed Go.Proofs.Ythjelilmlbbalaa.Tm Go.Proofs.Ythjelilmlbbalaa.Tb Go.Proofs.Ythjelilmlbbalaa.Tf Go.Proofs.Ythjelilmlbbalaa.Rm Go.Proofs.Ythjelilmlbbalaa.Ra Go.Proofs.Ythjelilmlbbalaa.Am Go.Proofs.Ythjelilmlbbalaa.An Go.Proofs.Ythjelilmlbbalaa.Ac Go.Proofs.Ythjelilmlbbalaa.Aa Go.Proofs.Ythjelilmlbbalaa.Ab Go.Proofs.Ythjelilmlbbalaa.Ad Go.Proofs.Ythjelilmlbbalaa.Da Go.Proofs.Ythjelilmlbbalaa.Db Go.Proofs.Ythjelilmlbbalaa.Dg Go.Proofs.Ythjelilmlbbalaa.Dh Go.Proofs.Ythjelilmlbbalaa.Di Go.Proofs.Ythjelilmlbbalaa.Ob

/-- The states that have been met. -/
def met (g : Eg → Bool) (E : List (List Eg)) (now : List Int) (i j : Nat) (D : List Int) : Prop := ∀ x, x ∈ D ↔ ∃ q : Nat, x = (q : Int) ∧ pg g E now i j q
section
variable {g : Eg → Bool} {E : List (List Eg)} {now D : List Int} {i j p : Nat} {l : List Eg} {e : Eg}
theorem met_zero : met g E now 0 0 [] := fun x => by
  constructor
  · intro h; cases h
  · rintro ⟨q, _, h⟩; exact absurd h pg_zero
theorem met_no (h : met g E now i j D) (hp : now[i]? = some (p : Int)) (hl : E[p]? = some l) (he : l[j]? = some e) (hg : g e = false) : met g E now i (j + 1) D := fun x => by
  rw [h x]
  constructor
  · rintro ⟨q, a, b⟩
    exact ⟨q, a, (pg_edge hp hl he).2 (.inl b)⟩
  · rintro ⟨q, a, b⟩
    rcases (pg_edge hp hl he).1 b with b | b
    · exact ⟨q, a, b⟩
    · rw [hg] at b; cases b.1
theorem met_yes (h : met g E now i j D) (hp : now[i]? = some (p : Int)) (hl : E[p]? = some l) (he : l[j]? = some e) (hg : g e = true) {y : Nat} (hy : e.to = (y : Int)) : met g E now i (j + 1) (addQ D (y : Int)) := fun x => by
  rw [addQ_mem, h x]
  constructor
  · rintro (rfl | ⟨q, a, b⟩)
    · exact ⟨y, rfl, (pg_edge hp hl he).2 (.inr ⟨hg, hy⟩)⟩
    · exact ⟨q, a, (pg_edge hp hl he).2 (.inl b)⟩
  · rintro ⟨q, a, b⟩
    rcases (pg_edge hp hl he).1 b with b | b
    · exact .inr ⟨q, a, b⟩
    · exact .inl (by rw [a, ← b.2, hy])
theorem met_next (h : met g E now i l.length D) (hp : now[i]? = some (p : Int)) (hl : E[p]? = some l) : met g E now (i + 1) 0 D := fun x => by
  rw [h x]
  exact ⟨fun ⟨q, a, b⟩ => ⟨q, a, (pg_next hp hl).2 b⟩, fun ⟨q, a, b⟩ => ⟨q, a, (pg_next hp hl).1 b⟩⟩
end
theorem met_all {c : Nat} {A : Au} {now D : List Int} (h : met (gB c) A.E now now.length 0 D) {C : List Int} (k : isL C (clo A.E (fun p => (p : Int) ∈ D))) : isL C (stp A.E c (fun q => (q : Int) ∈ now)) := by
  refine k.congr (fun q => ?_)
  have e : (fun p : Nat => (p : Int) ∈ D) = fun q : Nat => ∃ p : Nat, (p : Int) ∈ now ∧ byE A.E c p q := by
    funext p
    refine propext ?_
    rw [h]
    constructor
    · rintro ⟨q, a, b⟩
      obtain rfl : p = q := by omega
      obtain ⟨r, hr, hx⟩ := pg_all.1 b
      exact ⟨r, hr, byE_iff.2 hx⟩
    · rintro ⟨r, hr, hx⟩
      exact ⟨p, rfl, pg_all.2 ⟨r, hr, byE_iff.1 hx⟩⟩
  rw [e]
  exact Iff.rfl
theorem gB_of {A : Au} (h : okA A) {c : Nat} (hc : c < 256) {l : List Eg} (hl : l ∈ A.E) {e : Eg} (he : e ∈ l) : has e.s c = gB c e := by
  unfold gB
  cases hf : e.free with
  | true => rw [(h.e l hl e he).2.2 hf, has_zero hc]; rfl
  | false => rfl
/-- What step answers. -/
def ansT (A : Au) (c : Nat) (now : List Int) (w : World) (e : Ending) (w' : World) : Prop := ∃ v C, e = .returned v ∧ ints w' w.heap.size 3 v C ∧ isL C (stp A.E c (fun q => (q : Int) ∈ now)) ∧ Below w.heap.size w w'
set_option maxHeartbeats 4000000 in
set_option maxRecDepth 100000 in
theorem step_any {A : Au} (hok : okA A) (hrow : ∀ l ∈ A.E, l.length ≤ 1000000) {A1 A2 As : Option Addr} {c1 c2 cs c : Nat} (hc : c < 256) {now : List Int} (hnow : ∀ x ∈ now, 0 ≤ x ∧ x < (A.E.length : Int)) (hlen : now.length ≤ 1000000) {w : World} (H : Hid (nfa w A1 A2 A)) (HS : Hid (row w As now.length (at0 now))) :
    Calls Try.prog 37 #[nv A1 A2 c1 c2 A, .slice As now.length cs, .int .u8 (c : Int)] w fun e w' => ansT A c now w e w' := by
  unfold nv
  have HOK := Lib.hid hok
  have HROW := Lib.hid hrow
  have HCC := Lib.hid hc
  have HNW := Lib.hid hnow
  have HHA : Hid (∀ (u : World) (x0 x1 x2 x3 : Nat), isSet [x0, x1, x2, x3] → Calls Try.prog 58 #[.agg #[.int .u64 (x0 : Int), .int .u64 (x1 : Int), .int .u64 (x2 : Int), .int .u64 (x3 : Int)], .int .u8 (c : Int)] u fun e w' => e = .returned (.bool (has [x0, x1, x2, x3] c)) ∧ Below u.heap.size u w') := Lib.hid (fun u x0 x1 x2 x3 h => Tb.Has_any h hc u)
  have HCLO : Hid (∀ (w0 u : World) (q mb : Nat) (L : List Int) (v : Value), nfa w0 A1 A2 A → Below w0.heap.size w0 u → crw u w0.heap.size q mb A.E.length L v → Calls Try.prog 35 #[.agg #[.slice A1 A.E.length c1, .int .i64 A.first, .slice A2 A.R.length c2], .pointer (some ⟨q, 0, none⟩)] u fun e w' => ansK A L w0 e w') := Lib.hid (fun w0 u q mb L v h1 h2 h3 => closed_any hok hrow (Lib.hid h1) (Lib.hid h2) (Lib.hid h3))
  obtain ⟨K, hK⟩ : ∃ K, K = A.E.length := ⟨_, rfl⟩
  obtain ⟨M, hMM⟩ : ∃ M, M = A.R.length := ⟨_, rfl⟩
  obtain ⟨F, hF⟩ : ∃ F, F = A.first := ⟨_, rfl⟩
  obtain ⟨m, hm⟩ : ∃ m, m = now.length := ⟨_, rfl⟩
  have HKE := Lib.hid hK
  have HM := Lib.hid hm
  have hK3 : K ≤ 3000 := by rw [hK]; exact hok.hi
  rw [← hK, ← hMM, ← hF] at HCLO ⊢
  rw [← hm] at HS hlen ⊢
  obtain ⟨w1, hw1⟩ : ∃ w1, w1 = w.alloc (.cells #[.slice A1 K c1, .int .i64 F, .slice A2 M c2] 28) := ⟨_, rfl⟩
  have B1 : Hid (Below w.heap.size w w1) := Lib.hid (by rw [hw1]; exact below_alloc _ _)
  have K1 : Hid (Blk w1 w.heap.size 28 #[.slice A1 K c1, .int .i64 F, .slice A2 M c2]) := Lib.hid (by rw [hw1]; exact Blk.fresh _ _ _)
  have N1 : Hid (nfa w1 A1 A2 A) := Lib.hid (H.out.below B1.out)
  have HGA : Hid (Calls Try.prog 36 #[.agg #[.slice A1 K c1, .int .i64 F, .slice A2 M c2], .slice none 0 0] w1 fun e w' => ansG K [] w1 e w') := Lib.hid (gather_any (D := []) hK3 (by simp) (Lib.hid (fun i h => absurd h (by simp))))
  have d0 := K1.out.cell 0
  have d1 := K1.out.cell 1
  have d2 := K1.out.cell 2
  obtain ⟨bb, hbb⟩ : ∃ bb, bb = w.heap.size := ⟨_, rfl⟩
  rw [← hbb] at K1 d0 d1 d2
  clear hK hMM hF hm hok hrow hc hnow
  go_enter Try.func37, Try.ntmps37
  go_upto_region 1 with fail
  rw [← hw1, ← hbb]
  clear hw1 hbb
  go_upto_region 2 with (go_at_call 36; refine HGA.out.mono ?_; rintro e w2 ⟨q, mb, v2, rfl, h2, k2⟩; have C2 := Lib.hid h2; have K2 := Lib.hid (K1.out.below k2); have B2 := Lib.hid k2; clear h2 k2)
  clear d0 d1 d2
  go_wp2
  go_loopw [9, 11, 16, 26] (fun _ _ s16 _ wr => ∃ (i : Nat) (D : List Int) (v : Value), s16 = .int .i64 (i : Int) ∧ i ≤ m ∧ Hid (crw wr w1.heap.size q mb K D v) ∧ Hid (met (gB c) A.E now i 0 D) ∧ Hid (Below w1.heap.size w1 wr) ∧ Hid (Blk wr bb 28 #[.slice A1 K c1, .int .i64 F, .slice A2 M c2])) (fun _ _ s16 _ _ => m - (intOf s16).toNat)
  case atStart => exact ⟨0, [], v2, rfl, Nat.zero_le _, C2, Lib.hid met_zero, B2, K2⟩
  case round =>
    obtain ⟨i, D, v, rfl, hi, HCR, HQ, HBW, HKB⟩ := hrel
    have d0 := HKB.out.cell 0
    by_cases hin : i < m
    · have hin' : (i : Int) < (m : Int) := by omega
      have hi0 : (0 : Int) ≤ (i : Int) := by omega
      have HIN := Lib.hid hin
      obtain ⟨bs, os, rfl, hbs, hcs0⟩ := HS.out i hin
      have hcs := (HBW.out.cell (p := ⟨bs, os + i, none⟩) (Nat.lt_of_lt_of_le hbs B1.out.size)).trans ((B1.out.cell (p := ⟨bs, os + i, none⟩) hbs).trans hcs0)
      have hz : now[i]? = some (at0 now i) := at0_get (by rw [← HM.out]; exact hin)
      obtain ⟨z, hze⟩ : ∃ z, z = at0 now i := ⟨_, rfl⟩
      rw [← hze] at hcs hz
      have hzr := HNW.out z (List.mem_of_getElem? hz)
      obtain ⟨p, rfl⟩ := Int.eq_ofNat_of_zero_le hzr.1
      have hpK : p < K := by have := hzr.2; rw [← HKE.out] at this; omega
      have hpK' : (p : Int) < (K : Int) := by omega
      have hp0 : (0 : Int) ≤ (p : Int) := by omega
      have HZ := Lib.hid hz
      obtain ⟨l, hl⟩ : ∃ l, A.E[p]? = some l := ⟨_, List.getElem?_eq_getElem (by rw [← HKE.out]; exact hpK)⟩
      have HL := Lib.hid hl
      have hll : l.length ≤ 1000000 := HROW.out l (List.mem_of_getElem? hl)
      obtain ⟨b1, o1, rfl, hb1, A', c', hrw0, _, hed⟩ := N1.out.e p l hl
      have hrw := (HBW.out.cell (p := ⟨b1, o1 + p, none⟩) hb1).trans hrw0
      have HED := Lib.hid hed
      obtain ⟨X, hX⟩ : ∃ X, X = l.length := ⟨_, rfl⟩
      have HX := Lib.hid hX
      rw [← hX] at hrw hll
      clear hX hl hed hz hze hzr hpK hin hb1 hrw0 hbs hcs0
      go_wp2
      clear hcs hrw d0
      go_loopw [11, 26] (fun _ s26 wz => ∃ (j : Nat) (D' : List Int) (v' : Value), s26 = .int .i64 (j : Int) ∧ j ≤ X ∧ Hid (crw wz w1.heap.size q mb K D' v') ∧ Hid (met (gB c) A.E now i j D') ∧ Hid (Below w1.heap.size w1 wz) ∧ Hid (Blk wz bb 28 #[.slice (some ⟨b1, o1, none⟩) K c1, .int .i64 F, .slice A2 M c2])) (fun _ s26 _ => X - (intOf s26).toNat)
      case atStart => exact ⟨0, D, v, rfl, Nat.zero_le _, HCR, HQ, HBW, HKB⟩
      case round =>
        obtain ⟨j, D', v', rfl, hj, HCZ, HJ, HBZ, HKZ⟩ := hrel
        by_cases hjn : j < X
        · have hjn' : (j : Int) < (X : Int) := by omega
          have hj0 : (0 : Int) ≤ (j : Int) := by omega
          obtain ⟨x, hx⟩ : ∃ x, l[j]? = some x := ⟨_, List.getElem?_eq_getElem (by rw [← HX.out]; exact hjn)⟩
          have HXX := Lib.hid hx
          obtain ⟨b3, o3, rfl, hb3, hpp⟩ := (HED.out.below HBZ.out) j x hx
          have e0 := hpp.c0
          have e1 := hpp.c1
          have hxe := HOK.out.e l (List.mem_of_getElem? HL.out) x (List.mem_of_getElem? hx)
          have hgb := gB_of HOK.out HCC.out (List.mem_of_getElem? HL.out) (List.mem_of_getElem? hx)
          have hss := hpp.s
          obtain ⟨x0, x1, x2, x3, hs4, e2, e3, e4, e5⟩ := hpp.four
          obtain ⟨xt, xf, xs⟩ := x
          dsimp only at e0 e1 hs4 hxe hgb hss
          subst hs4
          have HGB := Lib.hid hgb
          have HSS := Lib.hid hss
          clear hgb hss
          obtain ⟨y, rfl⟩ := Int.eq_ofNat_of_zero_le hxe.1
          have HY : Hid (y < K) := Lib.hid (by have := hxe.2.1; rw [HKE.out]; omega)
          obtain ⟨w6, hw6⟩ : ∃ w6, w6 = wr.alloc (.cells #[.int .i64 (y : Int), .bool xf, .int .u64 (x0 : Int), .int .u64 (x1 : Int), .int .u64 (x2 : Int), .int .u64 (x3 : Int)] 66) := ⟨_, rfl⟩
          have B6 : Hid (Below wr.heap.size wr w6) := Lib.hid (by rw [hw6]; exact below_alloc _ _)
          have K6 : Hid (Blk w6 wr.heap.size 66 #[.int .i64 (y : Int), .bool xf, .int .u64 (x0 : Int), .int .u64 (x1 : Int), .int .u64 (x2 : Int), .int .u64 (x3 : Int)]) := Lib.hid (by rw [hw6]; exact Blk.fresh _ _ _)
          obtain ⟨be, hbe⟩ : ∃ be, be = wr.heap.size := ⟨_, rfl⟩
          have hw6' : wr.alloc (.cells #[.int .i64 (y : Int), .bool xf, .int .u64 (x0 : Int), .int .u64 (x1 : Int), .int .u64 (x2 : Int), .int .u64 (x3 : Int)] 66) = w6 := hw6.symm
          rw [← hbe] at K6
          have C6 := Lib.hid (HCZ.out.below B6.out)
          have KB6 := Lib.hid (HKZ.out.below B6.out)
          have BB6 := Lib.hid (grows HBZ.out B6.out)
          have HJN := Lib.hid hjn
          clear hx hpp hb3 hjn hw6 hxe
          go_upto_region 8 with fail
          rw [← hbe]
          clear hw6' hbe e0 e1 e2 e3 e4 e5
          have k0 := K6.out.cell 0
          have k2 := K6.out.cell 2
          have k3 := K6.out.cell 3
          have k4 := K6.out.cell 4
          have k5 := K6.out.cell 5
          cases hb : has [x0, x1, x2, x3] c with
          | false =>
            have HHB := Lib.hid hb
            clear hb
            go_wp2_with (go_at_call 58; refine (HHA.out w6 x0 x1 x2 x3 HSS.out).mono ?_; rintro e w8 ⟨rfl, k8⟩; rw [HHB.out]; have K8 := Lib.hid k8; clear k8)
            go_roundw
            case rel => exact ⟨j + 1, D', v', by go_num, by have := HJN.out; omega, Lib.hid (C6.out.below K8.out), Lib.hid (met_no HJ.out HZ.out HL.out HXX.out (by rw [← HGB.out]; exact HHB.out)), Lib.hid (grows BB6.out K8.out), Lib.hid (KB6.out.below K8.out)⟩
            case measure => have := HJN.out; simp [intOf]; omega
          | true =>
            have HHB := Lib.hid hb
            clear hb
            go_wp2_with (first | (go_at_call 58; refine (HHA.out w6 x0 x1 x2 x3 HSS.out).mono ?_; rintro e w8 ⟨rfl, k8⟩; rw [HHB.out]; have K8 := Lib.hid k8; have C8 := Lib.hid (C6.out.below k8); have m0 := (K6.out.below k8).cell 0; clear k8) | (go_at_call 56; refine (meet_any HY.out (by omega) C8).mono ?_; rintro e w7 ⟨rfl, v7, c7, o7⟩; have C7 := Lib.hid c7; have O7 := Lib.hid o7; clear c7 o7))
            go_roundw
            case rel =>
              have hb8 := grows BB6.out K8.out
              have kb8 := KB6.out.below K8.out
              exact ⟨j + 1, _, v7, by go_num, by have := HJN.out; omega, C7, Lib.hid (met_yes HJ.out HZ.out HL.out HXX.out (by rw [← HGB.out]; exact HHB.out) rfl), Lib.hid (O7.out.below hb8 hb8.size (fun k hk => (C8.out.lo k hk).1)), Lib.hid (kb8.only O7.out (C8.out.apart kb8 (by decide) (by decide) (by decide)))⟩
            case measure => have := HJN.out; simp [intOf]; omega
        · obtain rfl : j = X := by omega
          have hjn' : ¬ (j : Int) < (j : Int) := by omega
          have HQ' : Hid (met (gB c) A.E now (i + 1) 0 D') := Lib.hid (met_next (by rw [← HX.out]; exact HJ.out) HZ.out HL.out)
          clear hjn
          go_wp2
          go_roundw
          case rel => exact ⟨i + 1, D', v', by go_num, by have := HIN.out; omega, HCZ, HQ', HBZ, HKZ⟩
          case measure => have := HIN.out; simp [intOf]; omega
    · obtain rfl : i = m := by omega
      have hin' : ¬ (i : Int) < (i : Int) := by omega
      have d1 := HKB.out.cell 1
      have d2 := HKB.out.cell 2
      have HCA := Lib.hid (HCLO.out w1 wr q mb D v N1.out HBW.out HCR.out)
      clear hin
      go_wp2_with (go_at_call 35; refine HCA.out.mono ?_; rintro e w4 ⟨v4, C4, rfl, i4, l4, k4⟩; have I4 := Lib.hid i4; have L4 := Lib.hid l4; have K4 := Lib.hid k4; clear i4 l4 k4)
      go_ret
      exact ⟨v4, C4, rfl, Aw.ints_mono B1.out.size I4.out, met_all (by rw [← HM.out]; exact HQ.out) L4.out, grows B1.out K4.out⟩
end Go.Proofs.Ythjelilmlbbalaa.Oc
namespace Go.Proofs.Ythjelilmlbbalaa.Od
open Go.RowKit Go.Proofs.Ythjelilmlbbalaa.Vm Go.Proofs.Ythjelilmlbbalaa.Vo Go.Proofs.Ythjelilmlbbalaa.Bw Go.Proofs.Ythjelilmlbbalaa.Na Go.Proofs.Ythjelilmlbbalaa.Ko Go.Proofs.Ythjelilmlbbalaa.Ed Go.Proofs.Ythjelilmlbbalaa.Tm Go.Proofs.Ythjelilmlbbalaa.Tb Go.Proofs.Ythjelilmlbbalaa.Tf Go.Proofs.Ythjelilmlbbalaa.Rm Go.Proofs.Ythjelilmlbbalaa.Ra Go.Proofs.Ythjelilmlbbalaa.Am Go.Proofs.Ythjelilmlbbalaa.An Go.Proofs.Ythjelilmlbbalaa.Ac Go.Proofs.Ythjelilmlbbalaa.Aa Go.Proofs.Ythjelilmlbbalaa.Ab Go.Proofs.Ythjelilmlbbalaa.Ad Go.Proofs.Ythjelilmlbbalaa.Ae Go.Proofs.Ythjelilmlbbalaa.Ag Go.Proofs.Ythjelilmlbbalaa.Ar Go.Proofs.Ythjelilmlbbalaa.Da Go.Proofs.Ythjelilmlbbalaa.Db Go.Proofs.Ythjelilmlbbalaa.Dg Go.Proofs.Ythjelilmlbbalaa.Dh Go.Proofs.Ythjelilmlbbalaa.Di Go.Proofs.Ythjelilmlbbalaa.Ob Go.Proofs.Ythjelilmlbbalaa.Oc

theorem infoF : (Try.prog.info? 95).map (·.size) = some 32 := by kernel_rfl
theorem run_index_bls (F : Array Value) (k : Nat) (hk : k < 32) (x : Value) (hx : F[k]? = some x) (w : World) :
    (Instr.index 95 (.agg F) (.int .i64 (k : Int))).run Try.prog w = .ok x w := by
  simp [Instr.index, run_underlying Try.underlying95, asIntOf, hk, hx, go_sem]
/-- The rules of the first so many states: is it one. -/
noncomputable def fnd (A : Au) (now : List Int) (i r : Nat) : Bool := open Classical in decide (rulTo A now i r)
open Classical in
theorem fnd_no {A : Au} {C : List Int} {i q : Nat} {z : Int} (hq : C[i]? = some (q : Int)) (hz : A.R[q]? = some z) (h : z < 0) (r : Nat) : fnd A C (i + 1) r = fnd A C i r := by
  unfold fnd
  exact decide_eq_decide.2 (rul_no hq hz h r)
open Classical in
theorem fnd_yes {A : Au} {C : List Int} {i q z : Nat} (hq : C[i]? = some (q : Int)) (hz : A.R[q]? = some (z : Int)) (r : Nat) : (if r = z then true else fnd A C i r) = fnd A C (i + 1) r := by
  unfold fnd
  by_cases e : r = z
  · rw [if_pos e]
    exact (decide_eq_true ((rul_yes hq hz r).1 (.inl e))).symm
  · rw [if_neg e]
    exact decide_eq_decide.2 ⟨fun h => (rul_yes hq hz r).1 (.inr h), fun h => ((rul_yes hq hz r).2 h).elim (fun k => absurd k e) id⟩
open Classical in
theorem fnd_zero (A : Au) (C : List Int) (r : Nat) : fnd A C 0 r = false := by
  unfold fnd
  exact decide_eq_false (fun ⟨a, h, _⟩ => absurd h (by omega))
theorem fnd_all {A : Au} {C : List Int} (r : Nat) : fnd A C C.length r = true ↔ rul A (fun q => (q : Int) ∈ C) r := by
  have k : fnd A C C.length r = true ↔ rulTo A C C.length r := by
    unfold fnd
    exact @decide_eq_true_iff _ (Classical.propDecidable _)
  refine k.trans ?_
  unfold rulTo rul
  constructor
  · rintro ⟨a, _, q, hq, hr⟩
    exact ⟨q, List.mem_of_getElem? hq, hr⟩
  · rintro ⟨q, hq, hr⟩
    obtain ⟨a, ha⟩ := List.mem_iff_getElem?.1 hq
    exact ⟨a, (List.getElem?_eq_some_iff.1 ha).1, q, ha, hr⟩
/-- The numbers below k of which it is so. -/
def lstQ (f : Nat → Bool) : Nat → List Int
  | 0 => []
  | k + 1 => lstQ f k ++ (if f k = true then [(k : Int)] else [])
theorem lstQ_mem (f : Nat → Bool) : ∀ (k : Nat) (x : Int), x ∈ lstQ f k ↔ ∃ q : Nat, x = (q : Int) ∧ q < k ∧ f q = true
  | 0, x => by simp [lstQ]
  | k + 1, x => by
    rw [lstQ, List.mem_append, lstQ_mem f k]
    constructor
    · rintro (⟨q, a, b, c⟩ | h)
      · exact ⟨q, a, by omega, c⟩
      · split at h
        · next hk => exact ⟨k, List.mem_singleton.1 h, by omega, hk⟩
        · cases h
    · rintro ⟨q, a, b, c⟩
      rcases (show q < k ∨ q = k by omega) with h | rfl
      · exact .inl ⟨q, a, h, c⟩
      · right
        rw [if_pos c, a]
        exact List.mem_singleton.2 rfl
theorem asc_snoc : ∀ {L : List Int} {x : Int}, asc L → (∀ y ∈ L, y < x) → asc (L ++ [x])
  | [], x, _, _ => by
    show asc [x]
    unfold asc
    exact ⟨by simp, by unfold asc; trivial⟩
  | z :: L, x, h, k => by
    unfold asc at h
    rw [List.cons_append]
    unfold asc
    refine ⟨fun y hy => ?_, asc_snoc h.2 (fun y hy => k y (by simp [hy]))⟩
    rcases List.mem_append.1 hy with hy | hy
    · exact h.1 y hy
    · rw [List.mem_singleton.1 hy]; exact k z (by simp)
theorem lstQ_asc (f : Nat → Bool) : ∀ k, asc (lstQ f k)
  | 0 => by unfold lstQ asc; trivial
  | k + 1 => by
    rw [lstQ]
    split
    · exact asc_snoc (lstQ_asc f k) (fun y hy => by obtain ⟨q, rfl, h, _⟩ := (lstQ_mem f k y).1 hy; omega)
    · rw [List.append_nil]; exact lstQ_asc f k
theorem lstQ_len (f : Nat → Bool) : ∀ k, (lstQ f k).length ≤ k
  | 0 => by simp [lstQ]
  | k + 1 => by
    rw [lstQ, List.length_append]
    have := lstQ_len f k
    split <;> simp <;> omega
theorem fb_zero : (#[.bool false, .bool false, .bool false, .bool false, .bool false, .bool false, .bool false, .bool false, .bool false, .bool false, .bool false, .bool false, .bool false, .bool false, .bool false, .bool false, .bool false, .bool false, .bool false, .bool false, .bool false, .bool false, .bool false, .bool false, .bool false, .bool false, .bool false, .bool false, .bool false, .bool false, .bool false, .bool false] : Array Value) = bls 32 (fun _ => false) := by kernel_rfl
/-- What ended answers. -/
def ansD (A : Au) (now : List Int) (w : World) (e : Ending) (w' : World) : Prop := ∃ v C, e = .returned v ∧ ints w' w.heap.size 3 v C ∧ isL C (rul A (fun q => (q : Int) ∈ now)) ∧ Below w.heap.size w w'
set_option maxHeartbeats 4000000 in
set_option maxRecDepth 100000 in
theorem ended_any {A : Au} (hok : okA A) {A1 A2 As : Option Addr} {c1 c2 cs : Nat} {now : List Int} (hnow : ∀ x ∈ now, 0 ≤ x ∧ x < (A.E.length : Int)) (hlen : now.length ≤ 1000000) {w : World} (H : Hid (nfa w A1 A2 A)) (HS : Hid (row w As now.length (at0 now))) :
    Calls Try.prog 38 #[nv A1 A2 c1 c2 A, .slice As now.length cs] w fun e w' => ansD A now w e w' := by
  unfold nv
  have HOK := Lib.hid hok
  have HNW := Lib.hid hnow
  obtain ⟨K, hK⟩ : ∃ K, K = A.E.length := ⟨_, rfl⟩
  obtain ⟨M, hMM⟩ : ∃ M, M = A.R.length := ⟨_, rfl⟩
  obtain ⟨F, hF⟩ : ∃ F, F = A.first := ⟨_, rfl⟩
  obtain ⟨m, hm⟩ : ∃ m, m = now.length := ⟨_, rfl⟩
  have HKE := Lib.hid hK
  have HME := Lib.hid hMM
  have HM := Lib.hid hm
  have HMK : Hid (M = K) := Lib.hid (by rw [hMM, hK, hok.rl])
  have hK3 : K ≤ 3000 := by rw [hK]; exact hok.hi
  rw [← hK, ← hMM, ← hF]
  rw [← hm] at HS hlen ⊢
  obtain ⟨w1, hw1⟩ : ∃ w1, w1 = w.alloc (.cells #[.slice A1 K c1, .int .i64 F, .slice A2 M c2] 28) := ⟨_, rfl⟩
  have B1 : Hid (Below w.heap.size w w1) := Lib.hid (by rw [hw1]; exact below_alloc _ _)
  have K1 : Hid (Blk w1 w.heap.size 28 #[.slice A1 K c1, .int .i64 F, .slice A2 M c2]) := Lib.hid (by rw [hw1]; exact Blk.fresh _ _ _)
  obtain ⟨bb, hbb⟩ : ∃ bb, bb = w.heap.size := ⟨_, rfl⟩
  rw [← hbb] at K1
  clear hK hMM hF hm hok hnow
  go_enter Try.func38, Try.ntmps38
  go_upto_region 1 with fail
  rw [← hw1, ← hbb]
  clear hw1 hbb
  go_upto_region 2 with fail
  rw [fb_zero]
  obtain ⟨w2, hw2⟩ : ∃ w2, w2 = w1.alloc (.cells (bls 32 (fun _ => false)) 95) := ⟨_, rfl⟩
  have B2 : Hid (Below w1.heap.size w1 w2) := Lib.hid (by rw [hw2]; exact below_alloc _ _)
  have K2 : Hid (Blk w2 w1.heap.size 95 (bls 32 (fun _ => false))) := Lib.hid (by rw [hw2]; exact Blk.fresh _ _ _)
  have KB2 := Lib.hid (K1.out.below B2.out)
  obtain ⟨fb, hfb⟩ : ∃ fb, fb = w1.heap.size := ⟨_, rfl⟩
  have HFB : Hid (w.heap.size ≤ fb) := Lib.hid (by rw [hfb]; exact B1.out.size)
  have HFW : Hid (fb < w2.heap.size) := Lib.hid (by rw [hfb]; exact K2.out.lt)
  rw [← hw2, ← hfb]
  rw [← hfb] at K2
  have BW2 : Hid (Below w.heap.size w w2) := Lib.hid (grows B1.out B2.out)
  have K20 : Hid (Blk w2 fb 95 (bls 32 (fnd A now 0))) := Lib.hid (by rw [bls_congr (g := fun _ => false) (fun i _ => fnd_zero A now i)]; exact K2.out)
  clear hw2 hfb
  go_wp2
  go_loopw [7, 8, 14] (fun _ _ s14 wr => ∃ i : Nat, s14 = .int .i64 (i : Int) ∧ i ≤ m ∧ Hid (Blk wr fb 95 (bls 32 (fnd A now i))) ∧ Hid (Below w.heap.size w wr) ∧ Hid (Blk wr bb 28 #[.slice A1 K c1, .int .i64 F, .slice A2 M c2])) (fun _ _ s14 _ => m - (intOf s14).toNat)
  case atStart => exact ⟨0, rfl, by omega, K20, BW2, KB2⟩
  case round =>
    obtain ⟨i, rfl, hi, HFD, HBW, HKB⟩ := hrel
    by_cases hin : i < m
    · have hin' : (i : Int) < (m : Int) := by omega
      have hi0 : (0 : Int) ≤ (i : Int) := by omega
      have HIN := Lib.hid hin
      obtain ⟨bs, os, rfl, hbs, hcs0⟩ := HS.out i hin
      have hcs := (HBW.out.cell (p := ⟨bs, os + i, none⟩) hbs).trans hcs0
      have hz : now[i]? = some (at0 now i) := at0_get (by rw [← HM.out]; exact hin)
      obtain ⟨z, hze⟩ : ∃ z, z = at0 now i := ⟨_, rfl⟩
      rw [← hze] at hcs hz
      have hzr := HNW.out z (List.mem_of_getElem? hz)
      obtain ⟨p, rfl⟩ := Int.eq_ofNat_of_zero_le hzr.1
      have hpM : p < M := by have := hzr.2; rw [← HKE.out] at this; rw [HMK.out]; omega
      have hpM' : (p : Int) < (M : Int) := by omega
      have hp0 : (0 : Int) ≤ (p : Int) := by omega
      have HZ := Lib.hid hz
      obtain ⟨br, orr, rfl, hbr, hcr0⟩ := H.out.r p (by rw [← HME.out]; exact hpM)
      have hcr := (HBW.out.cell (p := ⟨br, orr + p, none⟩) hbr).trans hcr0
      obtain ⟨r, hre⟩ : ∃ r, r = at0 A.R p := ⟨_, rfl⟩
      rw [← hre] at hcr
      have HR : Hid (A.R[p]? = some r) := Lib.hid (by rw [hre]; exact at0_get (by rw [← HME.out]; exact hpM))
      have hrr := HOK.out.r r (List.mem_of_getElem? HR.out)
      have d2 := HKB.out.cell 2
      clear hz hze hzr hin hbs hcs0 hbr hcr0 hre
      by_cases hr : r = -1
      · subst hr
        clear hrr
        go_wp2
        go_roundw
        case rel => exact ⟨i + 1, by go_num, by have := HIN.out; omega, Lib.hid (by rw [bls_congr (g := fnd A now i) (fun j _ => fnd_no HZ.out HR.out (by omega) j)]; exact HFD.out), HBW, HKB⟩
        case measure => have := HIN.out; simp [intOf]; omega
      · obtain ⟨k, rfl⟩ := Int.eq_ofNat_of_zero_le (show 0 ≤ r by omega)
        have hk32 : k < 32 := by omega
        have hk32' : (k : Int) < 32 := by omega
        have hk0 : (0 : Int) ≤ (k : Int) := by omega
        have hne : ((k : Int) != -1) = true := by rw [bne_iff_ne]; omega
        have kc := (HFD.out.cell k).trans (bls_get _ hk32)
        have kf := HFD.out.frozen k
        have HKF : Hid (Blk (wr.setCell ⟨fb, k, none⟩ (.bool true)) fb 95 (bls 32 (fnd A now (i + 1)))) := Lib.hid (by
          have := HFD.out.store k (.bool true)
          rw [bls_set] at this
          rw [bls_congr (g := fun j => if j = k then true else fnd A now i j) (fun j _ => (fnd_yes HZ.out HR.out j).symm)]
          exact this)
        have oS := (Only.refl (fun j => j = fb) wr).store (p := ⟨fb, k, none⟩) (.inl rfl) (.bool true)
        have HBS : Hid (Below w.heap.size w (wr.setCell ⟨fb, k, none⟩ (.bool true))) := Lib.hid (oS.below HBW.out HBW.out.size (fun j hj => by have e : j = fb := hj; rw [e]; exact HFB.out))
        have HKS : Hid (Blk (wr.setCell ⟨fb, k, none⟩ (.bool true)) bb 28 #[.slice A1 K c1, .int .i64 F, .slice (some ⟨br, orr, none⟩) M c2]) := Lib.hid (HKB.out.only oS (fun e => Blk.apart HKB.out HFD.out (by decide) e))
        clear hr hrr oS
        go_wp2
        go_roundw
        case rel => exact ⟨i + 1, by go_num, by have := HIN.out; omega, HKF, HBS, HKS⟩
        case measure => have := HIN.out; simp [intOf]; omega
    · obtain rfl : i = m := by omega
      have hin' : ¬ (i : Int) < (i : Int) := by omega
      obtain ⟨G, hG⟩ : ∃ G, G = bls 32 (fnd A now i) := ⟨_, rfl⟩
      have HGB : Hid (Blk wr fb 95 G) := Lib.hid (by rw [hG]; exact HFD.out)
      have HGS : Hid (G.size = 32) := Lib.hid (by rw [hG, bls_size])
      have HGX : Hid (∀ k, k < 32 → G[k]? = some (.bool (fnd A now i k))) := Lib.hid (fun k hk => by rw [hG]; exact bls_get _ hk)
      clear hin hG
      go_upto_region 11 with (refine wpList_load_row rfl 95 _ rfl fb rfl _ _ _ _ HGB.out Try.underlying95 rfl (by rw [HGS.out]; exact infoF) ?_)
      go_loopw [9, 10, 11, 29] (fun s9 _ _ s29 wz => ∃ (k : Nat) (A5 : Option Addr) (n5 c5 : Nat), s9 = .slice A5 n5 c5 ∧ s29 = .int .i64 (k : Int) ∧ k ≤ 32 ∧ Hid (ints wz w.heap.size 3 (.slice A5 n5 c5) (lstQ (fnd A now i) k)) ∧ Hid (Below w.heap.size w wz)) (fun _ _ _ s29 _ => 32 - (intOf s29).toNat)
      case atStart => exact ⟨0, none, 0, 0, rfl, rfl, by omega, Lib.hid (ints_nil _ _ _), HBW⟩
      case round =>
        obtain ⟨k, A5, n5, c5, rfl, rfl, hk, HI, HBZ⟩ := hrel
        by_cases hk32 : k < 32
        · have hk32' : (k : Int) < 32 := by omega
          have hk0 : (0 : Int) ≤ (k : Int) := by omega
          have hIx := run_index_bls G k hk32 _ (HGX.out k hk32)
          have HLE : Hid ((Is (lstQ (fnd A now i) k)).length ≤ 1000000000) := Lib.hid (by rw [Is_length]; have := lstQ_len (fnd A now i) k; omega)
          have HSZ : Hid (w.heap.size ≤ wr.heap.size) := Lib.hid HBZ.out.size
          have HK3 := Lib.hid hk32
          cases hb : fnd A now i k with
          | false =>
            rw [hb] at hIx
            have HN : Hid (lstQ (fnd A now i) (k + 1) = lstQ (fnd A now i) k) := Lib.hid (by rw [lstQ, hb]; simp)
            clear hb hk32
            go_wp2
            go_roundw
            case rel => exact ⟨k + 1, A5, n5, c5, rfl, by go_num, by have := HK3.out; omega, Lib.hid (by rw [HN.out]; exact HI.out), HBZ⟩
            case measure => have := HK3.out; simp [intOf]; omega
          | true =>
            rw [hb] at hIx
            have HN : Hid (lstQ (fnd A now i) (k + 1) = lstQ (fnd A now i) k ++ [(k : Int)]) := Lib.hid (by rw [lstQ, hb]; simp)
            clear hb hk32
            go_wp2_with (at_builtin; refine wpList_vsO Try.underlying26 infoI rfl (by decide) rfl _ _ rfl (base := w.heap.size) HSZ.out (by rfl) (vs_of_ints HI.out) (.int .i64 (k : Int)) rfl rfl (by rfl) rfl HLE.out ?_; intro v4 w4 h4 o4; obtain ⟨A4, n4, c4, rfl⟩ : ∃ A4 n4 c4, v4 = .slice A4 n4 c4 := (by obtain ⟨A4, c4, e, _⟩ := h4.le; exact ⟨A4, _, c4, e⟩); have H4 := Lib.hid h4; have O4 := Lib.hid o4; clear h4 o4)
            go_roundw
            case rel => exact ⟨k + 1, A4, n4, c4, rfl, by go_num, by have := HK3.out; omega, Lib.hid (by rw [HN.out]; exact ints_of_vs H4.out), Lib.hid (O4.out.below HBZ.out HSZ.out (fun j hj => (HI.out.lo j hj).1))⟩
            case measure => have := HK3.out; simp [intOf]; omega
        · have HK2 : Hid (k = 32) := Lib.hid (by omega)
          have hk32' : ¬ (k : Int) < 32 := by omega
          clear hk32 hk
          go_wp2
          go_ret
          refine ⟨_, _, rfl, HI.out, ⟨lstQ_asc _ _, fun x => ?_⟩, HBZ.out⟩
          rw [lstQ_mem]
          constructor
          · rintro ⟨q, a, _, c⟩
            exact ⟨q, a, by rw [HM.out] at c; exact (fnd_all q).1 c⟩
          · rintro ⟨q, a, c⟩
            refine ⟨q, a, ?_, by rw [HM.out]; exact (fnd_all q).2 c⟩
            rw [HK2.out]
            obtain ⟨p, _, hp⟩ := c
            have := HOK.out.r _ (List.mem_of_getElem? hp)
            omega
end Go.Proofs.Ythjelilmlbbalaa.Od
namespace Go.Proofs.Ythjelilmlbbalaa.Oe
open Go.RowKit Go.Proofs.Ythjelilmlbbalaa.Vm Go.Proofs.Ythjelilmlbbalaa.Vo Go.Proofs.Ythjelilmlbbalaa.Bw Go.Proofs.Ythjelilmlbbalaa.Na Go.Proofs.Ythjelilmlbbalaa.Ko Go.Proofs.Ythjelilmlbbalaa.Ed Go.Proofs.Ythjelilmlbbalaa.Tm Go.Proofs.Ythjelilmlbbalaa.Tb Go.Proofs.Ythjelilmlbbalaa.Tf Go.Proofs.Ythjelilmlbbalaa.Rm Go.Proofs.Ythjelilmlbbalaa.Ra Go.Proofs.Ythjelilmlbbalaa.Am Go.Proofs.Ythjelilmlbbalaa.An Go.Proofs.Ythjelilmlbbalaa.Ac Go.Proofs.Ythjelilmlbbalaa.Aa Go.Proofs.Ythjelilmlbbalaa.Ab Go.Proofs.Ythjelilmlbbalaa.Ad Go.Proofs.Ythjelilmlbbalaa.Ae Go.Proofs.Ythjelilmlbbalaa.Ag Go.Proofs.Ythjelilmlbbalaa.Ar Go.Proofs.Ythjelilmlbbalaa.Ax Go.Proofs.Ythjelilmlbbalaa.Da Go.Proofs.Ythjelilmlbbalaa.Db Go.Proofs.Ythjelilmlbbalaa.Dg Go.Proofs.Ythjelilmlbbalaa.Dh Go.Proofs.Ythjelilmlbbalaa.Di Go.Proofs.Ythjelilmlbbalaa.Oa Go.Proofs.Ythjelilmlbbalaa.Ob Go.Proofs.Ythjelilmlbbalaa.Oc Go.Proofs.Ythjelilmlbbalaa.Od

theorem gat_clo {E : List (List Eg)} {D : List Int} {q : Nat} : clo E (fun p => (p : Int) ∈ gatQ E.length D D.length) q ↔ clo E (fun p => (p : Int) ∈ D) q := by
  unfold clo
  constructor
  · rintro ⟨p, h, k, r⟩
    obtain ⟨_, a, _, ha⟩ := gatQ_mem.1 h
    exact ⟨p, List.mem_of_getElem? ha, k, r⟩
  · rintro ⟨p, h, k, r⟩
    obtain ⟨a, ha⟩ := List.mem_iff_getElem?.1 h
    exact ⟨p, gatQ_mem.2 ⟨⟨by omega, by omega⟩, a, (List.getElem?_eq_some_iff.1 ha).1, ha⟩, k, r⟩
theorem gat_stp {E : List (List Eg)} {D : List Int} {c q : Nat} : stp E c (fun p => (p : Int) ∈ gatQ E.length D D.length) q ↔ stp E c (fun p => (p : Int) ∈ D) q := by
  unfold stp
  have e : (fun q : Nat => ∃ p : Nat, (p : Int) ∈ gatQ E.length D D.length ∧ byE E c p q) = fun q : Nat => ∃ p : Nat, (p : Int) ∈ D ∧ byE E c p q := by
    funext q
    refine propext ⟨?_, ?_⟩
    · rintro ⟨p, h, k⟩
      obtain ⟨_, a, _, ha⟩ := gatQ_mem.1 h
      exact ⟨p, List.mem_of_getElem? ha, k⟩
    · rintro ⟨p, h, k⟩
      obtain ⟨a, ha⟩ := List.mem_iff_getElem?.1 h
      have hp : p < E.length := by
        obtain ⟨l, _, hl, _⟩ := k
        exact (List.getElem?_eq_some_iff.1 hl).1
      exact ⟨p, gatQ_mem.2 ⟨⟨by omega, by omega⟩, a, (List.getElem?_eq_some_iff.1 ha).1, ha⟩, k⟩
  rw [e]
set_option maxHeartbeats 4000000 in
set_option maxRecDepth 100000 in
theorem Closure_any {A : Au} (hE : A.E.length ≤ 1000000) (hM : A.R.length ≤ 1000000) (hrow : ∀ l ∈ A.E, l.length ≤ 1000000) {A1 A2 As : Option Addr} {c1 c2 cs : Nat} {D : List Int} (hD : D.length ≤ 1000000) {w : World} (H : Hid (nfa w A1 A2 A)) (HSR : Hid (row w As D.length (at0 D))) :
    Calls Try.prog 20 #[nv A1 A2 c1 c2 A, .slice As D.length cs] w fun e w' => ansC A (fun q => (q : Int) ∈ D) w e w' := by
  have HRI : Hid (∀ u, nfa u A1 A2 A → Calls Try.prog 14 #[nv A1 A2 c1 c2 A] u fun e w' => ansB (okA A) u e w') := Lib.hid (fun u h => Right_any hE hM hrow (Lib.hid h))
  have HCL : Hid (okA A → ∀ (w0 u : World) (q mb : Nat) (L : List Int) (v : Value), nfa w0 A1 A2 A → Below w0.heap.size w0 u → crw u w0.heap.size q mb A.E.length L v → Calls Try.prog 35 #[nv A1 A2 c1 c2 A, .pointer (some ⟨q, 0, none⟩)] u fun e w' => ansK A L w0 e w') := Lib.hid (fun hok w0 u q mb L v h1 h2 h3 => closed_any hok hrow (Lib.hid h1) (Lib.hid h2) (Lib.hid h3))
  have HGA : Hid (A.E.length ≤ 3000 → ∀ u : World, row u As D.length (at0 D) → Calls Try.prog 36 #[nv A1 A2 c1 c2 A, .slice As D.length cs] u fun e w' => ansG A.E.length D u e w') := Lib.hid (fun h3 u h => by unfold nv; exact gather_any h3 hD (Lib.hid h))
  unfold nv at HRI HCL HGA ⊢
  obtain ⟨K, hK⟩ : ∃ K, K = A.E.length := ⟨_, rfl⟩
  obtain ⟨M, hMM⟩ : ∃ M, M = A.R.length := ⟨_, rfl⟩
  obtain ⟨F, hF⟩ : ∃ F, F = A.first := ⟨_, rfl⟩
  obtain ⟨m, hm⟩ : ∃ m, m = D.length := ⟨_, rfl⟩
  have HKE := Lib.hid hK
  have HMD := Lib.hid hm
  rw [← hK] at HGA
  rw [← hK, ← hMM, ← hF] at HRI HCL ⊢
  rw [← hMM, ← hF, ← hm] at HGA
  rw [← hm] at HSR ⊢
  obtain ⟨w1, hw1⟩ : ∃ w1, w1 = w.alloc (.cells #[.slice A1 K c1, .int .i64 F, .slice A2 M c2] 28) := ⟨_, rfl⟩
  have B1 : Hid (Below w.heap.size w w1) := Lib.hid (by rw [hw1]; exact below_alloc _ _)
  have K1 : Hid (Blk w1 w.heap.size 28 #[.slice A1 K c1, .int .i64 F, .slice A2 M c2]) := Lib.hid (by rw [hw1]; exact Blk.fresh _ _ _)
  have d0 := K1.out.cell 0
  have d1 := K1.out.cell 1
  have d2 := K1.out.cell 2
  clear hK hMM hF hm hrow hE hM hD
  go_enter Try.func20, Try.ntmps20
  go_upto_region 1 with fail
  rw [← hw1]
  clear hw1
  go_wp2_with (go_at_call 14; refine (HRI.out _ (H.out.below B1.out)).mono ?_; rintro e w2 ⟨rb, rfl, hrb, k2⟩; have HRB := Lib.hid hrb; have B2 := Lib.hid (grows B1.out k2); have K2 := Lib.hid (K1.out.below k2); clear hrb k2 d0 d1 d2; cases rb)
  · have HX : Hid (¬ okA A) := Lib.hid (fun k => by have := HRB.out.2 k; cases this)
    go_wp2
    go_ret
    exact ⟨_, [], rfl, ints_nil _ _ _, fun k => absurd k HX.out, fun _ => rfl, B2.out⟩
  · have HOK : Hid (okA A) := Lib.hid (HRB.out.1 (by simp))
    have BD : Hid (Below w.heap.size w w2.drew) := Lib.hid (below_drew B2.out)
    have HN2 := Lib.hid (H.out.below BD.out)
    have HG2 : Hid (Calls Try.prog 36 #[.agg #[.slice A1 K c1, .int .i64 F, .slice A2 M c2], .slice As m cs] w2.drew fun e w' => ansG K D w2.drew e w') := Lib.hid (HGA.out (by rw [HKE.out]; exact HOK.out.hi) w2.drew (HSR.out.below BD.out))
    have d0 := K2.out.cell 0
    have d1 := K2.out.cell 1
    have d2 := K2.out.cell 2
    go_upto_region 3 with fail
    go_region_held3 (fun w' => w'.cell? ⟨w.heap.size, 0, none⟩ = some (.slice A1 K c1) ∧ w'.cell? ⟨w.heap.size, 1, none⟩ = some (.int .i64 F) ∧ w'.cell? ⟨w.heap.size, 2, none⟩ = some (.slice A2 M c2))
      (first | exact ⟨d0, d1, d2⟩ | assumption)
      (first | (go_at_call 36; refine HG2.out.mono ?_; rintro e w3 ⟨q3, mb3, v3, rfl, h3, k3⟩; have C3 := Lib.hid h3; have B3 := Lib.hid k3; have z3 : w3.cell? ⟨w.heap.size, 0, none⟩ = some (.slice A1 K c1) ∧ w3.cell? ⟨w.heap.size, 1, none⟩ = some (.int .i64 F) ∧ w3.cell? ⟨w.heap.size, 2, none⟩ = some (.slice A2 M c2) := ⟨((K2.out.draws 1).below k3).cell 0, ((K2.out.draws 1).below k3).cell 1, ((K2.out.draws 1).below k3).cell 2⟩; clear h3 k3) | (go_at_call 35; refine (HCL.out HOK.out w2.drew w3 q3 mb3 _ v3 HN2.out B3.out (by first | exact C3.out | (rw [← HKE.out]; exact C3.out))).mono ?_; rintro e w4 ⟨v4, C4, rfl, i4, l4, k4⟩; have I4 := Lib.hid i4; have L4 := Lib.hid l4; have B4 := Lib.hid k4; have z4 : w4.cell? ⟨w.heap.size, 0, none⟩ = some (.slice A1 K c1) ∧ w4.cell? ⟨w.heap.size, 1, none⟩ = some (.int .i64 F) ∧ w4.cell? ⟨w.heap.size, 2, none⟩ = some (.slice A2 M c2) := ⟨((K2.out.draws 1).below k4).cell 0, ((K2.out.draws 1).below k4).cell 1, ((K2.out.draws 1).below k4).cell 2⟩; clear i4 l4 k4))
    go_wp2
    go_ret
    exact ⟨v4, C4, rfl, Aw.ints_mono BD.out.size I4.out, fun _ => L4.out.congr (fun q => by rw [HKE.out]; exact gat_clo), fun k => absurd HOK.out k, grows BD.out B4.out⟩
set_option maxHeartbeats 4000000 in
set_option maxRecDepth 100000 in
theorem Step_any {A : Au} (hE : A.E.length ≤ 1000000) (hM : A.R.length ≤ 1000000) (hrow : ∀ l ∈ A.E, l.length ≤ 1000000) {A1 A2 As : Option Addr} {c1 c2 cs c : Nat} (hc : c < 256) {D : List Int} (hD : D.length ≤ 1000000) {w : World} (H : Hid (nfa w A1 A2 A)) (HSR : Hid (row w As D.length (at0 D))) :
    Calls Try.prog 22 #[nv A1 A2 c1 c2 A, .slice As D.length cs, .int .u8 (c : Int)] w fun e w' => ansS A c (fun q => (q : Int) ∈ D) w e w' := by
  have HRI : Hid (∀ u, nfa u A1 A2 A → Calls Try.prog 14 #[nv A1 A2 c1 c2 A] u fun e w' => ansB (okA A) u e w') := Lib.hid (fun u h => Right_any hE hM hrow (Lib.hid h))
  have HST : Hid (okA A → ∀ (u : World) (As : Option Addr) (n cs : Nat) (L : List Int), n = L.length → (∀ x ∈ L, 0 ≤ x ∧ x < (A.E.length : Int)) → L.length ≤ 1000000 → nfa u A1 A2 A → row u As L.length (at0 L) → Calls Try.prog 37 #[nv A1 A2 c1 c2 A, .slice As n cs, .int .u8 (c : Int)] u fun e w' => ansT A c L u e w') := Lib.hid (fun hok u As n cs L hn h1 h2 h3 h4 => by rw [hn]; exact step_any hok hrow hc h1 h2 (Lib.hid h3) (Lib.hid h4))
  have HGA : Hid (A.E.length ≤ 3000 → ∀ u : World, row u As D.length (at0 D) → Calls Try.prog 36 #[nv A1 A2 c1 c2 A, .slice As D.length cs] u fun e w' => ansG A.E.length D u e w') := Lib.hid (fun h3 u h => by unfold nv; exact gather_any h3 hD (Lib.hid h))
  unfold nv at HRI HST HGA ⊢
  obtain ⟨K, hK⟩ : ∃ K, K = A.E.length := ⟨_, rfl⟩
  obtain ⟨M, hMM⟩ : ∃ M, M = A.R.length := ⟨_, rfl⟩
  obtain ⟨F, hF⟩ : ∃ F, F = A.first := ⟨_, rfl⟩
  obtain ⟨m, hm⟩ : ∃ m, m = D.length := ⟨_, rfl⟩
  have HKE := Lib.hid hK
  have HMD := Lib.hid hm
  rw [← hK] at HGA
  rw [← hK, ← hMM, ← hF] at HRI HST ⊢
  rw [← hMM, ← hF, ← hm] at HGA
  rw [← hm] at HSR ⊢
  obtain ⟨w1, hw1⟩ : ∃ w1, w1 = w.alloc (.cells #[.slice A1 K c1, .int .i64 F, .slice A2 M c2] 28) := ⟨_, rfl⟩
  have B1 : Hid (Below w.heap.size w w1) := Lib.hid (by rw [hw1]; exact below_alloc _ _)
  have K1 : Hid (Blk w1 w.heap.size 28 #[.slice A1 K c1, .int .i64 F, .slice A2 M c2]) := Lib.hid (by rw [hw1]; exact Blk.fresh _ _ _)
  have d0 := K1.out.cell 0
  have d1 := K1.out.cell 1
  have d2 := K1.out.cell 2
  clear hK hMM hF hm hrow hE hM hD hc
  go_enter Try.func22, Try.ntmps22
  go_upto_region 1 with fail
  rw [← hw1]
  clear hw1
  go_wp2_with (go_at_call 14; refine (HRI.out _ (H.out.below B1.out)).mono ?_; rintro e w2 ⟨rb, rfl, hrb, k2⟩; have HRB := Lib.hid hrb; have B2 := Lib.hid (grows B1.out k2); have K2 := Lib.hid (K1.out.below k2); clear hrb k2 d0 d1 d2; cases rb)
  · have HX : Hid (¬ okA A) := Lib.hid (fun k => by have := HRB.out.2 k; cases this)
    go_wp2
    go_ret
    exact ⟨_, [], rfl, ints_nil _ _ _, fun k => absurd k HX.out, fun _ => rfl, B2.out⟩
  · have HOK : Hid (okA A) := Lib.hid (HRB.out.1 (by simp))
    have BD : Hid (Below w.heap.size w w2.drew) := Lib.hid (below_drew B2.out)
    have HN2 := Lib.hid (H.out.below BD.out)
    have HK3 : Hid (K ≤ 3000) := Lib.hid (by rw [HKE.out]; exact HOK.out.hi)
    have HG2 : Hid (Calls Try.prog 36 #[.agg #[.slice A1 K c1, .int .i64 F, .slice A2 M c2], .slice As m cs] w2.drew fun e w' => ansG K D w2.drew e w') := Lib.hid (HGA.out HK3.out w2.drew (HSR.out.below BD.out))
    have d0 := K2.out.cell 0
    have d1 := K2.out.cell 1
    have d2 := K2.out.cell 2
    go_upto_region 3 with fail
    go_region_with (first | (go_at_call 36; refine HG2.out.mono ?_; rintro e w3 ⟨q3, mb3, v3, rfl, h3, k3⟩; obtain ⟨A5, c5, hv3, _⟩ := h3.l.le; obtain ⟨n5, hn5⟩ : ∃ n, n = (gatQ K D D.length).length := ⟨_, rfl⟩; rw [← hn5] at hv3; have HN5 := Lib.hid hn5; subst hv3; clear hn5; have C3 := Lib.hid h3; have B3 := Lib.hid k3; have e31 := h3.b.cell 1; have d30 := ((K2.out.draws 1).below k3).cell 0; have d31 := ((K2.out.draws 1).below k3).cell 1; have d32 := ((K2.out.draws 1).below k3).cell 2; clear h3 k3) | (go_at_call 37; refine (HST.out HOK.out w3 A5 n5 c5 _ HN5.out C3.out.r (by have h1 := C3.out.len; have h2 := HK3.out; omega) (HN2.out.below B3.out) (C3.out.l.row)).mono ?_; rintro e w4 ⟨v4, C4, rfl, i4, l4, k4⟩; have I4 := Lib.hid i4; have L4 := Lib.hid l4; have B4 := Lib.hid (grows B3.out k4); clear i4 l4 k4))
    all_goals
      go_wp2
      go_ret
      exact ⟨v4, C4, rfl, Aw.ints_mono (Nat.le_trans BD.out.size B3.out.size) I4.out, fun _ => L4.out.congr (fun q => by rw [HKE.out]; exact gat_stp), fun k => absurd HOK.out k, grows BD.out B4.out⟩
end Go.Proofs.Ythjelilmlbbalaa.Oe
namespace Go.Proofs.Ythjelilmlbbalaa.Of
open Go.RowKit Go.Proofs.Ythjelilmlbbalaa.Vm Go.Proofs.Ythjelilmlbbalaa.Vo Go.Proofs.Ythjelilmlbbalaa.Bw Go.Proofs.Ythjelilmlbbalaa.Na Go.Proofs.Ythjelilmlbbalaa.Ko Go.Proofs.Ythjelilmlbbalaa.Ed Go.Proofs.Ythjelilmlbbalaa.Tm Go.Proofs.Ythjelilmlbbalaa.Tb Go.Proofs.Ythjelilmlbbalaa.Tf Go.Proofs.Ythjelilmlbbalaa.Rm Go.Proofs.Ythjelilmlbbalaa.Rs Go.Proofs.Ythjelilmlbbalaa.Ra Go.Proofs.Ythjelilmlbbalaa.Am Go.Proofs.Ythjelilmlbbalaa.An Go.Proofs.Ythjelilmlbbalaa.Ac Go.Proofs.Ythjelilmlbbalaa.Aa Go.Proofs.Ythjelilmlbbalaa.Ab Go.Proofs.Ythjelilmlbbalaa.Ad Go.Proofs.Ythjelilmlbbalaa.Ae Go.Proofs.Ythjelilmlbbalaa.Ag Go.Proofs.Ythjelilmlbbalaa.Ar Go.Proofs.Ythjelilmlbbalaa.Ax Go.Proofs.Ythjelilmlbbalaa.Da Go.Proofs.Ythjelilmlbbalaa.Db Go.Proofs.Ythjelilmlbbalaa.Dg Go.Proofs.Ythjelilmlbbalaa.Dh Go.Proofs.Ythjelilmlbbalaa.Di Go.Proofs.Ythjelilmlbbalaa.Oa Go.Proofs.Ythjelilmlbbalaa.Ob Go.Proofs.Ythjelilmlbbalaa.Oc Go.Proofs.Ythjelilmlbbalaa.Od Go.Proofs.Ythjelilmlbbalaa.Oe

theorem runs_none {E : List (List Eg)} {f : Nat} {a : List Nat} (h : ∀ q, ¬ runs E f a q) : ∀ b q, ¬ runs E f (a ++ b) q := by
  refine snoc_ind ?_ ?_
  · intro q; rw [List.append_nil]; exact h q
  · intro b c ih q k
    rw [← List.append_assoc, runs_snoc] at k
    obtain ⟨p, ⟨r, h1, _⟩, _⟩ := k
    exact ih r h1
set_option maxHeartbeats 4000000 in
set_option maxRecDepth 100000 in
theorem Run_any {A : Au} (hE : A.E.length ≤ 1000000) (hM : A.R.length ≤ 1000000) (hrow : ∀ l ∈ A.E, l.length ≤ 1000000) {A1 A2 : Option Addr} {c1 c2 : Nat} {s : ByteArray} (hs : s.size ≤ 1000000) {w : World} (H : Hid (nfa w A1 A2 A)) :
    Calls Try.prog 16 #[nv A1 A2 c1 c2 A, .string s] w fun e w' => ansR A (nb s.data.toList) w e w' := by
  have HRI : Hid (∀ u, nfa u A1 A2 A → Calls Try.prog 14 #[nv A1 A2 c1 c2 A] u fun e w' => ansB (okA A) u e w') := Lib.hid (fun u h => Right_any hE hM hrow (Lib.hid h))
  have HST : Hid (okA A → ∀ (u : World) (As : Option Addr) (n cs : Nat) (L : List Int) (c : Nat), c < 256 → n = L.length → (∀ x ∈ L, 0 ≤ x ∧ x < (A.E.length : Int)) → L.length ≤ 1000000 → nfa u A1 A2 A → row u As L.length (at0 L) → Calls Try.prog 37 #[nv A1 A2 c1 c2 A, .slice As n cs, .int .u8 (c : Int)] u fun e w' => ansT A c L u e w') := Lib.hid (fun hok u As n cs L c hc hn h1 h2 h3 h4 => by rw [hn]; exact step_any hok hrow hc h1 h2 (Lib.hid h3) (Lib.hid h4))
  have HEN : Hid (okA A → ∀ (u : World) (As : Option Addr) (n cs : Nat) (L : List Int), n = L.length → (∀ x ∈ L, 0 ≤ x ∧ x < (A.E.length : Int)) → L.length ≤ 1000000 → nfa u A1 A2 A → row u As L.length (at0 L) → Calls Try.prog 38 #[nv A1 A2 c1 c2 A, .slice As n cs] u fun e w' => ansD A L u e w') := Lib.hid (fun hok u As n cs L hn h1 h2 h3 h4 => by rw [hn]; exact ended_any hok h1 h2 (Lib.hid h3) (Lib.hid h4))
  have HCL : Hid (okA A → ∀ (w0 u : World) (q mb : Nat) (L : List Int) (v : Value), nfa w0 A1 A2 A → Below w0.heap.size w0 u → crw u w0.heap.size q mb A.E.length L v → Calls Try.prog 35 #[nv A1 A2 c1 c2 A, .pointer (some ⟨q, 0, none⟩)] u fun e w' => ansK A L w0 e w') := Lib.hid (fun hok w0 u q mb L v h1 h2 h3 => closed_any hok hrow (Lib.hid h1) (Lib.hid h2) (Lib.hid h3))
  have HGA : Hid (A.E.length ≤ 3000 → ∀ (u : World) (b : Nat) (z : Int), row u (some ⟨b, 0, none⟩) 1 (at0 [z]) → Calls Try.prog 36 #[nv A1 A2 c1 c2 A, .slice (some ⟨b, 0, none⟩) 1 1] u fun e w' => ansG A.E.length [z] u e w') := Lib.hid (fun h3 u b z h => by unfold nv; exact gather_any (D := [z]) h3 (by simp) (Lib.hid h))
  unfold nv at HRI HST HEN HCL HGA ⊢
  obtain ⟨K, hK⟩ : ∃ K, K = A.E.length := ⟨_, rfl⟩
  obtain ⟨M, hMM⟩ : ∃ M, M = A.R.length := ⟨_, rfl⟩
  obtain ⟨F, hF⟩ : ∃ F, F = A.first := ⟨_, rfl⟩
  have HKE := Lib.hid hK
  have HFE := Lib.hid hF
  rw [← hK, ← hMM, ← hF] at HRI HST HEN HCL HGA ⊢
  obtain ⟨w1, hw1⟩ : ∃ w1, w1 = w.alloc (.cells #[.slice A1 K c1, .int .i64 F, .slice A2 M c2] 28) := ⟨_, rfl⟩
  have B1 : Hid (Below w.heap.size w w1) := Lib.hid (by rw [hw1]; exact below_alloc _ _)
  have K1 : Hid (Blk w1 w.heap.size 28 #[.slice A1 K c1, .int .i64 F, .slice A2 M c2]) := Lib.hid (by rw [hw1]; exact Blk.fresh _ _ _)
  have d0 := K1.out.cell 0
  have d1 := K1.out.cell 1
  have d2 := K1.out.cell 2
  obtain ⟨SB, hSB⟩ : ∃ SB, SB = nb s.data.toList := ⟨_, rfl⟩
  have HSB := Lib.hid hSB
  rw [← hSB]
  clear hK hMM hF hrow hE hM hSB
  go_enter Try.func16, Try.ntmps16
  go_upto_region 1 with fail
  rw [← hw1]
  clear hw1
  go_wp2_with (go_at_call 14; refine (HRI.out _ (H.out.below B1.out)).mono ?_; rintro e w2 ⟨rb, rfl, hrb, k2⟩; have HRB := Lib.hid hrb; have B2 := Lib.hid (grows B1.out k2); have K2 := Lib.hid (K1.out.below k2); clear hrb k2 d0 d1 d2; cases rb)
  · have HX : Hid (¬ okA A) := Lib.hid (fun k => by have := HRB.out.2 k; cases this)
    go_wp2
    go_ret
    exact ⟨_, [], rfl, ints_nil _ _ _, fun k => absurd k HX.out, fun _ => rfl, B2.out⟩
  · have HOK : Hid (okA A) := Lib.hid (HRB.out.1 (by simp))
    have HK3 : Hid (K ≤ 3000) := Lib.hid (by rw [HKE.out]; exact HOK.out.hi)
    have d0 := K2.out.cell 0
    have d1 := K2.out.cell 1
    have d2 := K2.out.cell 2
    go_upto_region 3 with fail
    obtain ⟨wa, hwa⟩ : ∃ wa, wa = (w2.alloc (.cells #[.int .i64 F] 3)).drew := ⟨_, rfl⟩
    have hwa' : (w2.alloc (.cells #[.int .i64 F] 3)).drew = wa := hwa.symm
    have BA : Hid (Below w2.heap.size w2 wa) := Lib.hid (by rw [hwa]; exact below_drew (below_alloc _ _))
    have KA := Lib.hid (K2.out.below BA.out)
    have a0 := KA.out.cell 0
    have a1 := KA.out.cell 1
    have a2 := KA.out.cell 2
    have HNA : Hid (nfa wa A1 A2 A) := Lib.hid (H.out.below (grows B2.out BA.out))
    have HG2 := Lib.hid (HGA.out HK3.out wa w2.heap.size F (by rw [hwa]; exact row_first w2 F))
    clear hwa
    go_region_held3 (fun w' => w'.cell? ⟨w.heap.size, 0, none⟩ = some (.slice A1 K c1) ∧ w'.cell? ⟨w.heap.size, 1, none⟩ = some (.int .i64 F) ∧ w'.cell? ⟨w.heap.size, 2, none⟩ = some (.slice A2 M c2))
      (first | exact ⟨d0, d1, d2⟩ | exact ⟨a0, a1, a2⟩ | assumption | (trace_state; fail))
      (first | (go_at_call 36; refine HG2.out.mono ?_; rintro e w3 ⟨q3, mb3, v3, rfl, h3, k3⟩; have C3 := Lib.hid h3; have B3 := Lib.hid k3; have z3 : w3.cell? ⟨w.heap.size, 0, none⟩ = some (.slice A1 K c1) ∧ w3.cell? ⟨w.heap.size, 1, none⟩ = some (.int .i64 F) ∧ w3.cell? ⟨w.heap.size, 2, none⟩ = some (.slice A2 M c2) := ⟨(KA.out.below k3).cell 0, (KA.out.below k3).cell 1, (KA.out.below k3).cell 2⟩; clear h3 k3) | (go_at_call 35; refine (HCL.out HOK.out wa w3 q3 mb3 _ v3 HNA.out B3.out C3.out).mono ?_; rintro e w4 ⟨v4, C4, rfl, i4, l4, k4⟩; obtain ⟨A4, c4, hv4, _⟩ := i4.le; obtain ⟨n4, hn4⟩ : ∃ n, n = C4.length := ⟨_, rfl⟩; rw [← hn4] at hv4; have HN4 := Lib.hid hn4; subst hv4; clear hn4; have I4 := Lib.hid i4; have L4 := Lib.hid l4; have B4 := Lib.hid k4; have z4 : w4.cell? ⟨w.heap.size, 0, none⟩ = some (.slice A1 K c1) ∧ w4.cell? ⟨w.heap.size, 1, none⟩ = some (.int .i64 F) ∧ w4.cell? ⟨w.heap.size, 2, none⟩ = some (.slice A2 M c2) := ⟨(KA.out.below k4).cell 0, (KA.out.below k4).cell 1, (KA.out.below k4).cell 2⟩; clear i4 l4 k4))
    have HEB : Hid (∀ c p q, byE A.E c p q → q < A.E.length) := Lib.hid (okA.byte HOK.out)
    obtain ⟨f, hf⟩ := Int.eq_ofNat_of_zero_le (show 0 ≤ F by rw [HFE.out]; exact HOK.out.f0)
    have HFN : Hid (A.first.toNat = f) := Lib.hid (by rw [← HFE.out, hf]; rfl)
    have HFK : Hid (f < K) := Lib.hid (by have := HOK.out.f1; rw [← HFE.out, ← HKE.out, hf] at this; omega)
    have HIN : Hid (isL C4 (runs A.E f [])) := Lib.hid (L4.out.congr (fun q => by
      show clo A.E _ q ↔ clo A.E _ q
      unfold clo
      have e : ∀ p : Nat, ((p : Int) ∈ gatQ K [F] [F].length) ↔ p = f := fun p => by
        rw [gatQ_mem]
        constructor
        · rintro ⟨_, a, ha, hx⟩
          have : a = 0 := by simp at ha; omega
          subst this
          simp at hx
          omega
        · rintro rfl
          have := HFK.out
          exact ⟨⟨by omega, by omega⟩, 0, by simp, by rw [hf]; rfl⟩
      have hKE := HKE.out
      exact ⟨fun ⟨p, h, k⟩ => ⟨p, (e p).1 (by first | exact h | (rw [hKE]; exact h)), k⟩, fun ⟨p, h, k⟩ => ⟨p, (by first | exact (e p).2 h | (rw [← hKE]; exact (e p).2 h)), k⟩⟩))
    have HRL : Hid (∀ (t : List Nat) q, runs A.E f t q → q < A.E.length) := Lib.hid (fun t q h => by
      rcases List.eq_nil_or_concat t with rfl | ⟨t', c, rfl⟩
      · exact clo_lt (okA.free HOK.out) h
      · rw [List.concat_eq_append, runs_snoc] at h
        exact clo_lt (okA.free HOK.out) h)
    have HW4 : Hid (Below w2.heap.size w2 w4) := Lib.hid (grows BA.out B4.out)
    have HI4 : Hid (ints w4 w.heap.size 3 (.slice A4 n4 c4) C4) := Lib.hid (Aw.ints_mono (grows B2.out BA.out).size I4.out)
    clear hf d0 d1 d2 a0 a1 a2 z3 z4 hwa'
    go_wp2
    go_loopw [5, 6, 19] (fun s5 _ s19 wr => ∃ (k : Nat) (A5 : Option Addr) (n5 c5 : Nat) (C : List Int), s5 = .slice A5 n5 c5 ∧ s19 = .int .i64 (k : Int) ∧ k ≤ s.size ∧ Hid (n5 = C.length) ∧ Hid (ints wr w.heap.size 3 (.slice A5 n5 c5) C) ∧ Hid (isL C (runs A.E f (SB.take k))) ∧ Hid (Below w2.heap.size w2 wr)) (fun _ _ s19 _ => s.size - (intOf s19).toNat)
    case atStart => exact ⟨0, A4, n4, c4, C4, rfl, rfl, by omega, HN4, HI4, HIN, HW4⟩
    case round =>
      obtain ⟨k, A5, n5, c5, C, rfl, rfl, hk, HN5, HI, HC, HG⟩ := hrel
      have HB := Lib.hid (grows B2.out HG.out)
      have KR := Lib.hid (K2.out.below HG.out)
      have d0 := KR.out.cell 0
      have d1 := KR.out.cell 1
      have d2 := KR.out.cell 2
      have HCR : Hid (∀ x ∈ C, 0 ≤ x ∧ x < (A.E.length : Int)) := Lib.hid (fun x hx => by
        obtain ⟨q, rfl, hq⟩ := (HC.out.m x).1 hx
        have := HRL.out _ q hq
        omega)
      have HCN : Hid (C.length ≤ 1000000) := Lib.hid (by
        have := HC.out.len (n := K) (fun q h => by rw [HKE.out]; exact HRL.out _ q h)
        have := HK3.out
        omega)
      have HEND : Hid (∀ u, Below wr.heap.size wr u → Calls Try.prog 38 #[.agg #[.slice A1 K c1, .int .i64 F, .slice A2 M c2], .slice A5 n5 c5] u fun e w' => ansD A C u e w') := Lib.hid (fun u h => HEN.out HOK.out u A5 n5 c5 C HN5.out (by first | exact HCR.out | (rw [HKE.out]; exact HCR.out)) HCN.out (H.out.below (grows HB.out h)) ((HI.out.below h).row))
      by_cases hks : k < s.size
      · have hks' : (k : Int) < (s.size : Int) := by omega
        have hk0 : (0 : Int) ≤ (k : Int) := by omega
        have HKS := Lib.hid hks
        by_cases hn0 : n5 = 0
        · have HRZ : Hid (isL C (runs A.E f SB)) := Lib.hid (by
            have hC0 : C = [] := List.length_eq_zero_iff.1 (by rw [← HN5.out]; exact hn0)
            have hno : ∀ q, ¬ runs A.E f (SB.take k) q := fun q hq => by
              have := (HC.out.mem q).2 hq
              rw [hC0] at this
              cases this
            have h2 := runs_none hno (SB.drop k)
            rw [List.take_append_drop] at h2
            rw [hC0]
            exact isL_nil.congr (fun q => ⟨False.elim, fun h => h2 q h⟩))
          subst hn0
          clear hks
          go_wp2_with (go_at_call 38; refine (HEND.out _ (Below.refl _ _)).mono ?_; rintro e w5 ⟨v5, D5, rfl, i5, q5, k5⟩; have I5 := Lib.hid (Aw.ints_mono HB.out.size i5); have Q5 := Lib.hid q5; have K5 := Lib.hid k5; clear i5 q5 k5)
          go_ret
          exact ⟨v5, D5, rfl, I5.out, fun _ => Q5.out.congr (fun r => by
            unfold rul
            rw [HFN.out]
            exact ⟨fun ⟨q, a, b⟩ => ⟨q, (HRZ.out.mem q).1 a, b⟩, fun ⟨q, a, b⟩ => ⟨q, (HRZ.out.mem q).2 a, b⟩⟩), fun k => absurd HOK.out k, grows HB.out K5.out⟩
        · have hn0' : ((n5 : Int) == 0) = false := by rw [beq_eq_false_iff_ne]; omega
          obtain ⟨x, hx, HXX⟩ : ∃ x : UInt8, s[k]'hks = x ∧ Hid (s[k]'hks = x) := ⟨_, rfl, Lib.hid rfl⟩
          have HSN : Hid (SB.take (k + 1) = SB.take k ++ [x.toNat]) := Lib.hid (by rw [HSB.out, nb_take hks, hx])
          have HCS := Lib.hid (fun (u : World) (h1 : Below wr.heap.size wr u) => HST.out HOK.out u A5 n5 c5 C x.toNat x.toNat_lt HN5.out (by first | exact HCR.out | (rw [HKE.out]; exact HCR.out)) HCN.out (H.out.below (grows HB.out h1)) (HI.out.below h1).row)
          clear hn0
          go_upto_region 8 with fail
          go_still_tail 5, (by kernel_rfl)
          go_wp2_with (go_at_call 37; refine (HCS.out _ (below_draws wr 1)).mono ?_; rintro e w5 ⟨v5, D5, rfl, i5, q5, k5⟩; have HG5 := Lib.hid (show Below wr.heap.size wr w5 from grows (below_draws wr 1) k5); have I5 := Lib.hid (Aw.ints_mono (show w.heap.size ≤ wr.drew.heap.size from HB.out.size) i5); have Q5 := Lib.hid q5; obtain ⟨A6, c6, hv6, _⟩ := i5.le; obtain ⟨n6, hn6⟩ : ∃ n, n = D5.length := ⟨_, rfl⟩; rw [← hn6] at hv6; have HN6 := Lib.hid hn6; subst hv6; clear i5 q5 k5 hn6)
          go_roundw
          case rel => exact ⟨k + 1, A6, n6, c6, D5, rfl, by go_num, by have := HKS.out; omega, HN6, I5, Lib.hid (Q5.out.congr (fun q => by
            rw [HSN.out, runs_snoc]
            unfold stp clo
            have e : ∀ p : Nat, (p : Int) ∈ C ↔ runs A.E f (SB.take k) p := fun p => HC.out.mem p
            exact ⟨fun ⟨p, ⟨a, h1, h2⟩, h⟩ => ⟨p, ⟨a, (e a).1 h1, h2⟩, h⟩, fun ⟨p, ⟨a, h1, h2⟩, h⟩ => ⟨p, ⟨a, (e a).2 h1, h2⟩, h⟩⟩)), Lib.hid (grows HG.out HG5.out)⟩
          case measure => have := HKS.out; simp [intOf]; omega
      · have hks' : ¬ (k : Int) < (s.size : Int) := by omega
        have HRZ : Hid (isL C (runs A.E f SB)) := Lib.hid (by
          have h := HC.out
          rw [List.take_of_length_le (by rw [HSB.out, nb_len]; omega)] at h
          exact h)
        clear hks hk
        go_wp2_with (go_at_call 38; refine (HEND.out _ (Below.refl _ _)).mono ?_; rintro e w5 ⟨v5, D5, rfl, i5, q5, k5⟩; have I5 := Lib.hid (Aw.ints_mono HB.out.size i5); have Q5 := Lib.hid q5; have K5 := Lib.hid k5; clear i5 q5 k5)
        go_ret
        exact ⟨v5, D5, rfl, I5.out, fun _ => Q5.out.congr (fun r => by
          unfold rul
          rw [HFN.out]
          exact ⟨fun ⟨q, a, b⟩ => ⟨q, (HRZ.out.mem q).1 a, b⟩, fun ⟨q, a, b⟩ => ⟨q, (HRZ.out.mem q).2 a, b⟩⟩), fun k => absurd HOK.out k, grows HB.out K5.out⟩
end Go.Proofs.Ythjelilmlbbalaa.Of
