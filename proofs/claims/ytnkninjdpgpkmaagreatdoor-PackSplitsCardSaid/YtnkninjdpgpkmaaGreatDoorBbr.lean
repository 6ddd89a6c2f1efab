/-
  A machine that inflates, in memory; isNone, isOver, produced and room, called with one that New made: their results; nothing has changed.
  number, called with spans.Length and with spans.Dist: the number, or what is wrong, and where the reader stands.
  What a machine is behind bytes that its window and its row have got; copied: a copy that a symbol begins.
  symbol: what the next symbol of a coded block stands for.
  stored: the bytes of a stored block.
  Conditions: as each theorem says.
-/
import Derived.Test.YtnkninjdpgpkmaaGreatDoorBbn
import Derived.Test.YtnkninjdpgpkmaaGreatDoorBbo
import Derived.Test.YtnkninjdpgpkmaaGreatDoorBbh
import Derived.Test.YtnkninjdpgpkmaaGreatDoorBbq
import Derived.Test.YtnkninjdpgpkmaaGreatDoorBaz
import Derived.BigQuiet
import Derived.Deep.QuietTactic
import Derived.Test.YtnkninjdpgpkmaaGreatDoorBaf
import Derived.StillTailTactics
namespace Go.Proofs.YtnkninjdpgpkmaaGreatDoor.Ic
open Go.RowKit Go.Proofs.YtnkninjdpgpkmaaGreatDoor.Vm Go.Proofs.YtnkninjdpgpkmaaGreatDoor.Bm Go.Proofs.YtnkninjdpgpkmaaGreatDoor.Bw Go.Proofs.YtnkninjdpgpkmaaGreatDoor.Br Go.Proofs.YtnkninjdpgpkmaaGreatDoor.Bs Go.Proofs.YtnkninjdpgpkmaaGreatDoor.Wr Go.Proofs.YtnkninjdpgpkmaaGreatDoor.Ww Go.Proofs.YtnkninjdpgpkmaaGreatDoor.Pc Go.Proofs.YtnkninjdpgpkmaaGreatDoor.Pd Go.Proofs.YtnkninjdpgpkmaaGreatDoor.Pg Go.Proofs.YtnkninjdpgpkmaaGreatDoor.Ph Go.Proofs.YtnkninjdpgpkmaaGreatDoor.Im Go.Proofs.YtnkninjdpgpkmaaGreatDoor.Ia Go.Proofs.YtnkninjdpgpkmaaGreatDoor.Ib

/-- The function that produces. -/
def nf : Nx → Value
  | .no => .nilFunc
  | .sto _ => .func (.func 96) #[] #[]
  | .sym _ _ => .func (.func 98) #[] #[]
/-- What a machine holds: its reader, its window and that one's ring, its rows of starts and of bytes, a size, two tables. -/
structure Ob where
  r : Nat
  g : Nat
  v : Value
  vs : Value
  vr : Value
  q : Int
  tl : Option Addr
  td : Option Addr
/-- Its cells. -/
def mc (m : Nat) (o : Ob) (k : Nat) (e : Int) (nx : Nx) (fin : Bool) : Array Value :=
  #[.pointer (some ⟨m, 0, none⟩), .pointer (some ⟨o.r, 0, none⟩), .pointer (some ⟨o.g, 0, none⟩), o.vs, .int .i64 (k : Int), o.vr, .int .i64 e, nf nx, .bool fin, .int .i64 o.q, .pointer o.tl, .pointer o.td]
/-- What it may write. -/
def own (m : Nat) (o : Ob) (i : Nat) : Prop := i = m ∨ i = o.r ∨ Ww.own o.g o.v i ∨ o.vs.ownBlock = some i ∨ ofR o.vr i
/-- A block of none of a table's kinds. -/
def notab (w : World) (i : Nat) : Prop := ∃ t cs, Blk w i t cs ∧ t ≠ 190 ∧ t ≠ 214 ∧ t ≠ 186
theorem tabl_off {w w' : World} {g n : Nat} {l : List Nat} {S : Nat → Prop} (h : tabl w g n l) (k : Only S w w') (hS : ∀ i, S i → i < w.heap.size → notab w i) : tabl w' g n l := by
  obtain ⟨base, F, v, bs, G, ht, hi⟩ := h
  refine ⟨base, F, v, bs, G, ht.only k ?_ ?_ ?_, hi⟩
  · intro e
    obtain ⟨t, cs, hb, h1, h2, h3⟩ := hS g e ht.b.lt
    exact Blk.apart hb ht.b h1 rfl
  · intro i hi e
    obtain ⟨t, cs, hb, h1, h2, h3⟩ := hS i e (World.ownsRow.lt ht.o i hi).2
    exact own_apart ht.o hb (fun e => h2 e.symm) i hi rfl
  · intro i hi e
    obtain ⟨t, cs, hb, h1, h2, h3⟩ := hS _ e (ht.s i hi).lt
    exact Blk.apart hb (ht.s i hi) h3 rfl
/-- What the block's function needs. -/
def nxt (w : World) (o : Ob) : Nx → Prop
  | .no => True
  | .sto q => o.q = (q : Int)
  | .sym Li Di => ∃ a b, o.tl = some ⟨a, 0, none⟩ ∧ o.td = some ⟨b, 0, none⟩ ∧ tabl w a Li.length Li ∧ tabl w b Di.length Di
theorem nxt_off {w w' : World} {o : Ob} {S : Nat → Prop} {nx : Nx} (h : nxt w o nx) (k : Only S w w') (hS : ∀ i, S i → i < w.heap.size → notab w i) : nxt w' o nx := by
  cases nx with
  | no => trivial
  | sto q => exact h
  | sym Li Di =>
    obtain ⟨a, b, h1, h2, h3, h4⟩ := h
    exact ⟨a, b, h1, h2, tabl_off h3 k hS, tabl_off h4 k hS⟩
/-- All but the machine's own cells. -/
structure rest (w : World) (t : ByteArray) (p : List UInt8) (o : Ob) (k : Nat) (nx : Nx) (a : Nat) (T : List UInt8) (L : List (Nat × Nat)) : Prop where
  r : rd w o.r t a
  wi : ∃ l x, win 0 w o.g o.v l x ∧ cont l x = Wm.lastN 32768 (p ++ T)
  s : strt 0 w o.vs L
  y : rdy w o.vr (T.drop k)
  k : k ≤ T.length
  n : nxt w o nx
  a : ∀ i, o.v.ownBlock = some i → ¬ ofR o.vr i
/-- A machine at block m, over t, with p ahead; k bytes were handed out. -/
structure mach (w : World) (m : Nat) (t : ByteArray) (p : List UInt8) (o : Ob) (k : Nat) (s : St) : Prop where
  b : Blk w m 66 (mc m o k s.e s.nx s.fin)
  h : rest w t p o k s.nx s.a s.T s.L

section
variable {w w' : World} {m : Nat} {t : ByteArray} {p : List UInt8} {o : Ob} {k : Nat} {s : St}
/-- Its blocks are of these kinds. -/
theorem rest.kind {nx : Nx} {a : Nat} {T : List UInt8} {L : List (Nat × Nat)} (h : rest w t p o k nx a T L) {i : Nat} (hi : i = o.r ∨ Ww.own o.g o.v i ∨ o.vs.ownBlock = some i ∨ ofR o.vr i) :
    ∃ ty cs, Blk w i ty cs ∧ (ty = 130 ∧ i = o.r ∨ ty = 122 ∧ i = o.g ∨ ty = 5 ∧ (o.v.ownBlock = some i ∨ ofR o.vr i) ∨ ty = 56 ∧ o.vs.ownBlock = some i) := by
  rcases hi with rfl | (rfl | hi) | hi | hi
  · exact ⟨_, _, h.r, .inl ⟨rfl, rfl⟩⟩
  · obtain ⟨l, x, hw, _⟩ := h.wi
    exact ⟨_, _, hw.b, .inr (.inl ⟨rfl, rfl⟩)⟩
  · obtain ⟨l, x, hw, _⟩ := h.wi
    rcases hw.o.2 with ⟨e, _⟩ | ⟨g, cap, cur, e, _, hh, _⟩
    · rw [e] at hi; cases hi
    · rw [e] at hi
      obtain rfl : g = i := by simpa [Value.ownBlock] using hi
      exact ⟨_, _, hh, .inr (.inr (.inl ⟨rfl, .inl (by rw [e]; rfl)⟩))⟩
  · rcases h.s.2 with ⟨e, _⟩ | ⟨g, cap, cur, e, _, hh, _⟩
    · rw [e] at hi; cases hi
    · rw [e] at hi
      obtain rfl : g = i := by simpa [Value.ownBlock] using hi
      exact ⟨_, _, hh, .inr (.inr (.inr ⟨rfl, by rw [e]; rfl⟩))⟩
  · obtain ⟨cur, hb⟩ := h.y.blk hi
    exact ⟨_, _, hb, .inr (.inr (.inl ⟨rfl, .inr hi⟩))⟩
theorem kind_lt {w : World} {i : Nat} {ty : TypeId} {cs : Array Value} (h : Blk w i ty cs) : i < w.heap.size := h.lt
theorem rest.lt {nx : Nx} {a : Nat} {T : List UInt8} {L : List (Nat × Nat)} (h : rest w t p o k nx a T L) {i : Nat} (hi : i = o.r ∨ Ww.own o.g o.v i ∨ o.vs.ownBlock = some i ∨ ofR o.vr i) : i < w.heap.size := by
  obtain ⟨ty, cs, hb, _⟩ := h.kind hi
  exact hb.lt
theorem rest.notab {nx : Nx} {a : Nat} {T : List UInt8} {L : List (Nat × Nat)} (h : rest w t p o k nx a T L) {i : Nat} (hi : i = o.r ∨ Ww.own o.g o.v i ∨ o.vs.ownBlock = some i ∨ ofR o.vr i) : notab w i := by
  obtain ⟨ty, cs, hb, h1⟩ := h.kind hi
  refine ⟨ty, cs, hb, ?_⟩
  rcases h1 with ⟨rfl, _⟩ | ⟨rfl, _⟩ | ⟨rfl, _⟩ | ⟨rfl, _⟩ <;> exact ⟨by decide, by decide, by decide⟩
/-- It stays where none of its blocks, and no table, has changed. -/
theorem rest.keep {S : Nat → Prop} {nx : Nx} {a : Nat} {T : List UInt8} {L : List (Nat × Nat)} (h : rest w t p o k nx a T L) (hk : Only S w w') (h1 : ∀ i, (i = o.r ∨ Ww.own o.g o.v i ∨ o.vs.ownBlock = some i ∨ ofR o.vr i) → ¬ S i) (h2 : ∀ i, S i → i < w.heap.size → Ic.notab w i) : rest w' t p o k nx a T L := by
  obtain ⟨l, x, hw, hc⟩ := h.wi
  exact ⟨h.r.only hk (h1 _ (.inl rfl)), ⟨l, x, hw.only hk (fun i hi => h1 i (.inr (.inl hi))), hc⟩, h.s.only hk (fun i hi => h1 i (.inr (.inr (.inl hi)))), h.y.only hk (fun i hi => h1 i (.inr (.inr (.inr hi)))), h.k, nxt_off h.n hk h2, h.a⟩
theorem mach.lt (h : mach w m t p o k s) {i : Nat} (hi : own m o i) : i < w.heap.size := by
  rcases hi with rfl | hi
  · exact h.b.lt
  · exact h.h.lt hi
theorem mach.notab (h : mach w m t p o k s) {i : Nat} (hi : own m o i) : notab w i := by
  rcases hi with rfl | hi
  · exact ⟨_, _, h.b, by decide, by decide, by decide⟩
  · exact h.h.notab hi
theorem mach.ne (h : mach w m t p o k s) {i : Nat} (hi : i = o.r ∨ Ww.own o.g o.v i ∨ o.vs.ownBlock = some i ∨ ofR o.vr i) : i ≠ m := by
  obtain ⟨ty, cs, hb, h1⟩ := h.h.kind hi
  rcases h1 with ⟨rfl, _⟩ | ⟨rfl, _⟩ | ⟨rfl, _⟩ | ⟨rfl, _⟩ <;> exact Blk.apart hb h.b (by decide)
theorem mach.keep {S : Nat → Prop} (h : mach w m t p o k s) (hk : Only S w w') (h1 : ∀ i, own m o i → ¬ S i) (h2 : ∀ i, S i → i < w.heap.size → Ic.notab w i) : mach w' m t p o k s :=
  ⟨h.b.only hk (h1 m (.inl rfl)), h.h.keep hk (fun i hi => h1 i (.inr hi)) h2⟩
theorem mach.below (h : mach w m t p o k s) (hk : Below w.heap.size w w') : mach w' m t p o k s := h.keep (S := fun _ => False) (Only.of_below hk) (fun _ _ e => e) (fun _ e => e.elim)
theorem mach.draws (h : mach w m t p o k s) (n : Nat) : mach (w.drewN n) m t p o k s := h.below (below_draws w n)
/-- What it does, told to others: only its blocks change; what it has behind it was its own or is new. -/
structure did (w : World) (m : Nat) (o : Ob) (w' : World) (o' : Ob) : Prop where
  on : Only (own m o) w w'
  nw : ∀ i, own m o' i → own m o i ∨ w.heap.size ≤ i
theorem did.refl (w : World) (m : Nat) (o : Ob) : did w m o w o := ⟨Only.refl _ _, fun _ h => .inl h⟩
theorem did.trans {w w1 w2 : World} {m : Nat} {o o1 o2 : Ob} (h : did w m o w1 o1) (k : did w1 m o1 w2 o2) : did w m o w2 o2 :=
  ⟨h.on.then k.on (fun i hi hl => (h.nw i hi).resolve_right (by omega)), fun i hi => (k.nw i hi).elim (h.nw i) (fun e => .inr (Nat.le_trans h.on.size e))⟩
theorem did.below (h : Below w.heap.size w w') : did w m o w' o := ⟨Only.of_below h, fun _ h => .inl h⟩
/-- A cell is stored. -/
theorem mach.store (h : mach w m t p o k s) (i : Nat) (u : Value) : Blk (w.setCell ⟨m, i, none⟩ u) m 66 ((mc m o k s.e s.nx s.fin).setIfInBounds i u) ∧ rest (w.setCell ⟨m, i, none⟩ u) t p o k s.nx s.a s.T s.L ∧ Only (own m o) w (w.setCell ⟨m, i, none⟩ u) := by
  have k1 : Only (At m) w (w.setCell ⟨m, i, none⟩ u) := (Only.refl _ w).store (p := ⟨m, i, none⟩) (.inl (At.self m)) u
  exact ⟨h.b.store i u, h.h.keep k1 (fun j hj e => h.ne hj e) (fun j hj _ => by obtain rfl : j = m := hj; exact ⟨_, _, h.b, by decide, by decide, by decide⟩), k1.mono (fun j hj => .inl hj)⟩
/-- The reader has moved. -/
theorem mach.read {a' : Nat} (h : mach w m t p o k s) (hk : Only (At o.r) w w') (hr : rd w' o.r t a') : mach w' m t p o k { s with a := a' } ∧ did w m o w' o := by
  obtain ⟨l, x, hw, hc⟩ := h.h.wi
  have hty : ∀ i, At o.r i → ∃ cs, Blk w i 130 cs := fun i hi => by obtain rfl : i = o.r := hi; exact ⟨_, h.h.r⟩
  have hne : ∀ {i : Nat} {ty : TypeId} {cs : Array Value}, Blk w i ty cs → ty ≠ 130 → ¬ At o.r i := fun hb hn e => by
    obtain ⟨cs, hb2⟩ := hty _ e
    exact Blk.apart hb hb2 hn rfl
  have hk2 : ∀ i, (Ww.own o.g o.v i ∨ o.vs.ownBlock = some i ∨ ofR o.vr i) → ¬ At o.r i := fun i hi => by
    obtain ⟨ty, cs, hb, h1⟩ := h.h.kind (.inr hi)
    rcases h1 with ⟨rfl, e⟩ | ⟨rfl, _⟩ | ⟨rfl, _⟩ | ⟨rfl, _⟩
    · subst e
      rcases hi with (e | hi) | hi | hi
      · exact absurd e (Blk.apart h.h.r hw.b (by decide))
      · exact absurd rfl (own_apart hw.o h.h.r (by decide) _ hi)
      · exact absurd rfl (own_apart h.h.s h.h.r (by decide) _ hi)
      · obtain ⟨cur, hb3⟩ := h.h.y.blk hi
        exact absurd rfl (Blk.apart hb3 h.h.r (by decide))
    · exact hne hb (by decide)
    · exact hne hb (by decide)
    · exact hne hb (by decide)
  refine ⟨⟨h.b.only hk (fun e => h.ne (.inl rfl) e.symm), ⟨hr, ⟨l, x, hw.only hk (fun i hi => hk2 i (.inl hi)), hc⟩, h.h.s.only hk (fun i hi => hk2 i (.inr (.inl hi))), h.h.y.only hk (fun i hi => hk2 i (.inr (.inr hi))), h.h.k, nxt_off h.h.n hk (fun i hi _ => ?_), h.h.a⟩⟩, ⟨hk.mono (fun i hi => .inr (.inl hi)), fun _ h => .inl h⟩⟩
  obtain ⟨cs, hb⟩ := hty i hi
  exact ⟨_, _, hb, by decide, by decide, by decide⟩
end

/-- A function compared with nil. -/
def isNo : Value → Bool
  | .nilFunc => true
  | _ => false
theorem run_fun_nil (w : World) (nx : Nx) : (Op.equal 63 (nf nx) .nilFunc).run Tryz.prog w = .ok (isNo (nf nx)) w := by
  have h : ∀ d : Nat, (Op.equalIn (d + 1) 63 (nf nx) .nilFunc).run Tryz.prog w = .ok (isNo (nf nx)) w := fun d => by
    cases nx <;> simp [Op.equalIn, run_underlying Tryz.underlying63, nf, isNo]
  exact h 9999
theorem run_fun_eql (w : World) (nx : Nx) : (binOp .eql 63 (nf nx) .nilFunc).run Tryz.prog w = .ok (.bool (isNo (nf nx))) w := by
  have h1 := run_fun_nil w nx
  simp only [binOp]
  simp [h1]
theorem run_fun_neq (w : World) (nx : Nx) : (binOp .neq 63 (nf nx) .nilFunc).run Tryz.prog w = .ok (.bool (!isNo (nf nx))) w := by
  have h1 := run_fun_nil w nx
  simp only [binOp]
  simp [h1]
theorem infoM : (Tryz.prog.info? 66).isSome = true := by kernel_rfl
theorem mNone_nil (w : World) : Calls Tryz.prog 35 #[.pointer none] w fun e w' => e = .returned (.bool true) ∧ w = w' := by
  go_enter Tryz.func35, Tryz.ntmps35
  go_wp2
  go_ret
  exact ⟨rfl, rfl⟩
theorem mNone_zero {w : World} {g : Nat} (c0 : w.cell? ⟨g, 0, none⟩ = some (.pointer none)) : Calls Tryz.prog 35 #[.pointer (some ⟨g, 0, none⟩)] w fun e w' => e = .returned (.bool true) ∧ w = w' := by
  have he := run_neq_nil (P := Tryz.prog) w ⟨g, 0, none⟩ Tryz.underlying28
  go_enter Tryz.func35, Tryz.ntmps35
  go_wp2
  go_ret
  exact ⟨rfl, rfl⟩
section
variable {w : World} {m : Nat} {t : ByteArray} {p : List UInt8} {o : Ob} {k : Nat} {s : St}
theorem mNone_any (h : mach w m t p o k s) : Calls Tryz.prog 35 #[.pointer (some ⟨m, 0, none⟩)] w fun e w' => e = .returned (.bool false) ∧ w = w' := by
  have c0 : w.cell? ⟨m, 0, none⟩ = some (.pointer (some ⟨m, 0, none⟩)) := h.b.cell 0
  obtain ⟨j, hj⟩ := Option.isSome_iff_exists.1 infoM
  have he := run_neq_same w ⟨m, 0, none⟩ Tryz.underlying28 hj
  clear hj h
  go_enter Tryz.func35, Tryz.ntmps35
  go_wp2
  go_ret
  exact ⟨rfl, rfl⟩
/-- Whether nothing more is produced, as a bool. -/
noncomputable def overB (s : St) : Bool := open Classical in decide s.over
theorem over_yes (h : s.over) : overB s = true := by unfold overB; simp [h]
theorem over_not (h : ¬ s.over) : overB s = false := by unfold overB; simp [h]
set_option maxRecDepth 100000 in
theorem isOver_any (h : mach w m t p o k s) : Calls Tryz.prog 62 #[.pointer (some ⟨m, 0, none⟩)] w fun e w' => e = .returned (.bool (overB s)) ∧ w = w' := by
  have c6 : w.cell? ⟨m, 6, none⟩ = some (.int .i64 s.e) := h.b.cell 6
  have c7 : w.cell? ⟨m, 7, none⟩ = some (nf s.nx) := h.b.cell 7
  have c8 : w.cell? ⟨m, 8, none⟩ = some (.bool s.fin) := h.b.cell 8
  obtain ⟨E, hE⟩ : ∃ E, E = s.e := ⟨_, rfl⟩
  obtain ⟨F, hF⟩ : ∃ F, F = s.fin := ⟨_, rfl⟩
  by_cases he : E = 0
  · have he' : (E != 0) = false := by simp [he]
    rcases hx : s.nx with _ | q | ⟨Li, Di⟩
    · have hB : overB s = F := by
        cases hf : F
        · exact over_not (by unfold St.over; rw [← hE, ← hF, hf]; simp [he])
        · exact over_yes (.inr ⟨hx, by rw [← hF, hf]⟩)
      rw [hx] at c7
      rw [hB]
      rw [← hE] at c6
      rw [← hF] at c8
      replace c7 : w.cell? ⟨m, 7, none⟩ = some .nilFunc := c7
      have hq : (binOp .eql 63 .nilFunc .nilFunc).run Tryz.prog w = .ok (.bool true) w := run_fun_eql w .no
      clear h hE hF hx hB he
      go_enter Tryz.func62, Tryz.ntmps62
      go_wp2
      go_ret
      exact ⟨rfl, rfl⟩
    · have hB : overB s = false := over_not (by unfold St.over; rw [← hE, hx]; simp [he])
      rw [hx] at c7
      rw [hB]
      rw [← hE] at c6
      replace c7 : w.cell? ⟨m, 7, none⟩ = some (.func (.func 96) #[] #[]) := c7
      have hq : (binOp .eql 63 (.func (.func 96) #[] #[]) .nilFunc).run Tryz.prog w = .ok (.bool false) w := run_fun_eql w (.sto 0)
      clear h hE hF hx hB he
      go_enter Tryz.func62, Tryz.ntmps62
      go_wp2
      go_ret
      exact ⟨rfl, rfl⟩
    · have hB : overB s = false := over_not (by unfold St.over; rw [← hE, hx]; simp [he])
      rw [hx] at c7
      rw [hB]
      rw [← hE] at c6
      replace c7 : w.cell? ⟨m, 7, none⟩ = some (.func (.func 98) #[] #[]) := c7
      have hq : (binOp .eql 63 (.func (.func 98) #[] #[]) .nilFunc).run Tryz.prog w = .ok (.bool false) w := run_fun_eql w (.sym [] [])
      clear h hE hF hx hB he
      go_enter Tryz.func62, Tryz.ntmps62
      go_wp2
      go_ret
      exact ⟨rfl, rfl⟩
  · have he' : (E != 0) = true := by simp [he]
    have hB : overB s = true := over_yes (.inl (by rw [← hE]; exact he))
    rw [hB]
    rw [← hE] at c6
    clear h hE hF hB he c7 c8
    go_enter Tryz.func62, Tryz.ntmps62
    go_wp2
    go_ret
    exact ⟨rfl, rfl⟩
theorem produced_any (h : mach w m t p o k s) (hT : s.T.length ≤ 10000000) : Calls Tryz.prog 94 #[.pointer (some ⟨m, 0, none⟩)] w fun e w' => e = .returned (.int .i64 (s.T.length : Int)) ∧ ∃ n, w' = w.drewN n := by
  have c4 : w.cell? ⟨m, 4, none⟩ = some (.int .i64 (k : Int)) := h.b.cell 4
  have c5 : w.cell? ⟨m, 5, none⟩ = some o.vr := h.b.cell 5
  obtain ⟨A, cap, hv, _⟩ := h.h.y.form
  have hk := h.h.k
  rw [List.length_drop] at hv
  rw [hv] at c5
  obtain ⟨n, hn⟩ : ∃ n, n = s.T.length - k := ⟨_, rfl⟩
  obtain ⟨x, hx⟩ : ∃ x, x = s.T.length := ⟨_, rfl⟩
  have hsum : IntKind.i64.wrap ((k : Int) + (n : Int)) = (x : Int) := by rw [IntKind.wrap_i64]; omega
  rw [← hn] at c5
  rw [← hx]
  clear h hv hn hx hk
  go_enter Tryz.func94, Tryz.ntmps94
  go_wp2
  go_quiet (fail)
  go_wp2
  go_ret
  exact ⟨rfl, _, rfl⟩
theorem room_any (h : mach w m t p o k s) (hT : s.T.length ≤ 10000000) : Calls Tryz.prog 128 #[.pointer (some ⟨m, 0, none⟩)] w fun e w' => e = .returned (.int .i64 ((16777216 - s.T.length : Nat) : Int)) ∧ ∃ n, w' = w.drewN n := by
  have HP := Lib.hid (produced_any h hT)
  obtain ⟨x, hx⟩ : ∃ x, x = s.T.length := ⟨_, rfl⟩
  have hsum : IntKind.i64.wrap (16777216 - (x : Int)) = ((16777216 - x : Nat) : Int) := by rw [IntKind.wrap_i64]; omega
  rw [← hx] at HP ⊢
  clear h hx hT
  go_enter Tryz.func128, Tryz.ntmps128
  go_wp2_with (go_at_call 94; refine HP.out.mono ?_; rintro e w' ⟨rfl, nd, rfl⟩)
  go_ret
  exact ⟨rfl, nd, rfl⟩
end
end Go.Proofs.YtnkninjdpgpkmaaGreatDoor.Ic
namespace Go.Proofs.YtnkninjdpgpkmaaGreatDoor.Id
open Go.RowKit Go.Proofs.YtnkninjdpgpkmaaGreatDoor.Vm Go.Proofs.YtnkninjdpgpkmaaGreatDoor.Bm Go.Proofs.YtnkninjdpgpkmaaGreatDoor.Bw Go.Proofs.YtnkninjdpgpkmaaGreatDoor.Br Go.Proofs.YtnkninjdpgpkmaaGreatDoor.Bs Go.Proofs.YtnkninjdpgpkmaaGreatDoor.Wr Go.Proofs.YtnkninjdpgpkmaaGreatDoor.Wc Go.Proofs.YtnkninjdpgpkmaaGreatDoor.Ww Go.Proofs.YtnkninjdpgpkmaaGreatDoor.Kc Go.Proofs.YtnkninjdpgpkmaaGreatDoor.Sm Go.Proofs.YtnkninjdpgpkmaaGreatDoor.Sp Go.Proofs.YtnkninjdpgpkmaaGreatDoor.Im Go.Proofs.YtnkninjdpgpkmaaGreatDoor.Ia Go.Proofs.YtnkninjdpgpkmaaGreatDoor.Ib Go.Proofs.YtnkninjdpgpkmaaGreatDoor.Ic

section
variable {w : World} {r : Nat} {t : ByteArray} {a : Nat}
theorem numLength_no {z : Int} (h : 285 < z) (h1 : z ≤ 9223372036854775807) (hr : rd w r t a) :
    Calls Tryz.prog 161 #[.pointer (some ⟨r, 0, none⟩), .func (.func 162) #[] #[], .int .i64 z] w fun e w' => e = .returned (.tuple #[.int .i64 0, .int .i64 9]) ∧ rd w' r t a ∧ Only (At r) w w' := by
  have HF := Length_any (z := z) (by omega) h1 w
  rw [lenA_out (.inr h)] at HF
  have HF := Lib.hid HF
  clear h h1
  go_enter Tryz.func161, Tryz.ntmps161
  go_wp2_with (go_at_call 162; refine HF.out.mono ?_; rintro e w1 ⟨rfl, b1⟩; have r1 := hr.below b1)
  go_ret2
  exact ⟨rfl, r1, Only.of_below b1⟩
theorem numDist_no {z : Int} (h : 29 < z) (h1 : z ≤ 9223372036854775807) (hr : rd w r t a) :
    Calls Tryz.prog 161 #[.pointer (some ⟨r, 0, none⟩), .func (.func 163) #[] #[], .int .i64 z] w fun e w' => e = .returned (.tuple #[.int .i64 0, .int .i64 9]) ∧ rd w' r t a ∧ Only (At r) w w' := by
  have HF := Dist_any (z := z) (by omega) h1 w
  rw [disA_out (.inr h)] at HF
  have HF := Lib.hid HF
  clear h h1
  go_enter Tryz.func161, Tryz.ntmps161
  go_wp2_with (go_at_call 163; refine HF.out.mono ?_; rintro e w1 ⟨rfl, b1⟩; have r1 := hr.below b1)
  go_ret2
  exact ⟨rfl, r1, Only.of_below b1⟩
theorem numLength_short {z : Int} {q : Nat} (hz : z - 257 = (q : Int)) (hq : q ≤ 28) (hr : rd w r t a) (hs : t.size ≤ 281474976710656) (ha : a ≤ 8 * t.size) (hl : 8 * t.size - a < lb q) :
    Calls Tryz.prog 161 #[.pointer (some ⟨r, 0, none⟩), .func (.func 162) #[] #[], .int .i64 z] w fun e w' => e = .returned (.tuple #[.int .i64 0, .int .i64 2]) ∧ rd w' r t a ∧ Only (At r) w w' := by
  have HF := Length_any (z := z) (by omega) (by omega) w
  rw [lenA_in hz hq] at HF
  have HF := Lib.hid HF
  have h5 := lb_le hq
  have HB := Lib.hid (fun u (k : rd u r t a) => Bits_short (w := u) (z := (lb q : Int)) rfl (by omega) k hs ha hl)
  obtain ⟨c, hc⟩ : ∃ c, c = lb q := ⟨_, rfl⟩
  obtain ⟨b, hb⟩ : ∃ b, b = lB q := ⟨_, rfl⟩
  rw [← hc] at HB
  rw [← hc, ← hb] at HF
  clear hl h5 hc hb hz
  go_enter Tryz.func161, Tryz.ntmps161
  go_wp2_with (first | (go_at_call 162; refine HF.out.mono ?_; rintro e w1 ⟨rfl, b1⟩; have r1 := hr.below b1) | (go_at_call 146; refine (HB.out _ r1).mono ?_; rintro e w2 ⟨rfl, r2, o2⟩))
  go_ret2
  exact ⟨rfl, r2, (Only.of_below b1).trans o2⟩
theorem numDist_short {q : Nat} (hq : q < 30) (hr : rd w r t a) (hs : t.size ≤ 281474976710656) (ha : a ≤ 8 * t.size) (hl : 8 * t.size - a < fb 2 q) :
    Calls Tryz.prog 161 #[.pointer (some ⟨r, 0, none⟩), .func (.func 163) #[] #[], .int .i64 (q : Int)] w fun e w' => e = .returned (.tuple #[.int .i64 0, .int .i64 2]) ∧ rd w' r t a ∧ Only (At r) w w' := by
  have HF := Dist_any (z := (q : Int)) (by omega) (by omega) w
  rw [disA_in hq] at HF
  have HF := Lib.hid HF
  have h5 := fb2_le hq
  have HB := Lib.hid (fun u (k : rd u r t a) => Bits_short (w := u) (z := (fb 2 q : Int)) rfl (by omega) k hs ha hl)
  obtain ⟨c, hc⟩ : ∃ c, c = fb 2 q := ⟨_, rfl⟩
  obtain ⟨b, hb⟩ : ∃ b, b = dB q := ⟨_, rfl⟩
  rw [← hc] at HB
  rw [← hc, ← hb] at HF
  clear hl h5 hc hb
  go_enter Tryz.func161, Tryz.ntmps161
  go_wp2_with (first | (go_at_call 163; refine HF.out.mono ?_; rintro e w1 ⟨rfl, b1⟩; have r1 := hr.below b1) | (go_at_call 146; refine (HB.out _ r1).mono ?_; rintro e w2 ⟨rfl, r2, o2⟩))
  go_ret2
  exact ⟨rfl, r2, (Only.of_below b1).trans o2⟩
theorem numLength_has {z : Int} {q : Nat} (hz : z - 257 = (q : Int)) (hq : q ≤ 28) (hr : rd w r t a) (hs : t.size ≤ 281474976710656) (ha : a + lb q ≤ 8 * t.size) :
    Calls Tryz.prog 161 #[.pointer (some ⟨r, 0, none⟩), .func (.func 162) #[] #[], .int .i64 z] w fun e w' => e = .returned (.tuple #[.int .i64 ((lB q + peekN (num t.data.toList) a (lb q) : Nat) : Int), .int .i64 0]) ∧ rd w' r t (a + lb q) ∧ Only (At r) w w' := by
  have HF := Length_any (z := z) (by omega) (by omega) w
  rw [lenA_in hz hq] at HF
  have HF := Lib.hid HF
  have h5 := lb_le hq
  have h6 := (lB_sum hq (peekN_lt (num t.data.toList) a (lb q))).2
  have HB := Lib.hid (fun u (k : rd u r t a) => Bits_has (w := u) (z := (lb q : Int)) rfl (by omega) k hs ha)
  obtain ⟨x, hx⟩ : ∃ x, x = peekN (num t.data.toList) a (lb q) := ⟨_, rfl⟩
  obtain ⟨c, hc⟩ : ∃ c, c = lb q := ⟨_, rfl⟩
  obtain ⟨b, hb⟩ : ∃ b, b = lB q := ⟨_, rfl⟩
  rw [← hx, ← hb] at h6
  rw [← hx, ← hc] at HB
  rw [← hc, ← hb] at HF
  rw [← hx, ← hc, ← hb]
  have hsum : IntKind.i64.wrap ((b : Int) + (x : Int)) = ((b + x : Nat) : Int) := by rw [IntKind.wrap_i64]; omega
  obtain ⟨y, hy⟩ : ∃ y, y = b + x := ⟨_, rfl⟩
  rw [← hy] at hsum ⊢
  clear ha h5 h6 hc hb hz hx hy
  go_enter Tryz.func161, Tryz.ntmps161
  go_wp2_with (first | (go_at_call 162; refine HF.out.mono ?_; rintro e w1 ⟨rfl, b1⟩; have r1 := hr.below b1) | (go_at_call 146; refine (HB.out _ r1).mono ?_; rintro e w2 ⟨rfl, r2, o2⟩))
  go_ret2
  exact ⟨rfl, r2, (Only.of_below b1).trans o2⟩
theorem numDist_has {q : Nat} (hq : q < 30) (hr : rd w r t a) (hs : t.size ≤ 281474976710656) (ha : a + fb 2 q ≤ 8 * t.size) :
    Calls Tryz.prog 161 #[.pointer (some ⟨r, 0, none⟩), .func (.func 163) #[] #[], .int .i64 (q : Int)] w fun e w' => e = .returned (.tuple #[.int .i64 ((dB q + peekN (num t.data.toList) a (fb 2 q) : Nat) : Int), .int .i64 0]) ∧ rd w' r t (a + fb 2 q) ∧ Only (At r) w w' := by
  have HF := Dist_any (z := (q : Int)) (by omega) (by omega) w
  rw [disA_in hq] at HF
  have HF := Lib.hid HF
  have h5 := fb2_le hq
  have h6 := (dB_sum hq (peekN_lt (num t.data.toList) a (fb 2 q))).2
  have HB := Lib.hid (fun u (k : rd u r t a) => Bits_has (w := u) (z := (fb 2 q : Int)) rfl (by omega) k hs ha)
  obtain ⟨x, hx⟩ : ∃ x, x = peekN (num t.data.toList) a (fb 2 q) := ⟨_, rfl⟩
  obtain ⟨c, hc⟩ : ∃ c, c = fb 2 q := ⟨_, rfl⟩
  obtain ⟨b, hb⟩ : ∃ b, b = dB q := ⟨_, rfl⟩
  rw [← hx, ← hb] at h6
  rw [← hx, ← hc] at HB
  rw [← hc, ← hb] at HF
  rw [← hx, ← hc, ← hb]
  have hsum : IntKind.i64.wrap ((b : Int) + (x : Int)) = ((b + x : Nat) : Int) := by rw [IntKind.wrap_i64]; omega
  obtain ⟨y, hy⟩ : ∃ y, y = b + x := ⟨_, rfl⟩
  rw [← hy] at hsum ⊢
  clear ha h5 h6 hc hb hx hy
  go_enter Tryz.func161, Tryz.ntmps161
  go_wp2_with (first | (go_at_call 163; refine HF.out.mono ?_; rintro e w1 ⟨rfl, b1⟩; have r1 := hr.below b1) | (go_at_call 146; refine (HB.out _ r1).mono ?_; rintro e w2 ⟨rfl, r2, o2⟩))
  go_ret2
  exact ⟨rfl, r2, (Only.of_below b1).trans o2⟩
end

end Go.Proofs.YtnkninjdpgpkmaaGreatDoor.Id
namespace Go.Proofs.YtnkninjdpgpkmaaGreatDoor.Ie
open Go.RowKit Go.Proofs.YtnkninjdpgpkmaaGreatDoor.Vm Go.Proofs.YtnkninjdpgpkmaaGreatDoor.Bm Go.Proofs.YtnkninjdpgpkmaaGreatDoor.Bw Go.Proofs.YtnkninjdpgpkmaaGreatDoor.Br Go.Proofs.YtnkninjdpgpkmaaGreatDoor.Bs Go.Proofs.YtnkninjdpgpkmaaGreatDoor.Wr Go.Proofs.YtnkninjdpgpkmaaGreatDoor.Wc Go.Proofs.YtnkninjdpgpkmaaGreatDoor.Ww Go.Proofs.YtnkninjdpgpkmaaGreatDoor.Wd Go.Proofs.YtnkninjdpgpkmaaGreatDoor.Kc Go.Proofs.YtnkninjdpgpkmaaGreatDoor.Nm Go.Proofs.YtnkninjdpgpkmaaGreatDoor.Pm Go.Proofs.YtnkninjdpgpkmaaGreatDoor.Pg Go.Proofs.YtnkninjdpgpkmaaGreatDoor.Ph Go.Proofs.YtnkninjdpgpkmaaGreatDoor.Sm Go.Proofs.YtnkninjdpgpkmaaGreatDoor.Sp Go.Proofs.YtnkninjdpgpkmaaGreatDoor.Fm Go.Proofs.YtnkninjdpgpkmaaGreatDoor.Im Go.Proofs.YtnkninjdpgpkmaaGreatDoor.Ia Go.Proofs.YtnkninjdpgpkmaaGreatDoor.Ib Go.Proofs.YtnkninjdpgpkmaaGreatDoor.Ic Go.Proofs.YtnkninjdpgpkmaaGreatDoor.Id

/-- The window has got bytes, and so has the row. -/
theorem mach_grow {w w1 w2 w3 : World} {m : Nat} {t : ByteArray} {p : List UInt8} {o : Ob} {k : Nat} {s : St} (h : mach w m t p o k s) {v1 : Value} {l1 : List UInt8} {x1 : Nat} {c : List UInt8} {vr' : Value}
    (hW : win 0 w1 o.g v1 l1 x1) (hc : cont l1 x1 = Wm.lastN 32768 (p ++ (s.T ++ c))) (O1 : Only (Ww.own o.g o.v) w w1) (hl : later w o.v v1) (B2 : Below w1.heap.size w1 w2) (hm : more w2 o.vr (s.T.drop k ++ c) vr' w3) :
    mach (w3.setCell ⟨m, 5, none⟩ vr') m t p { o with v := v1, vr := vr' } k { s with T := s.T ++ c } ∧ did w m o (w3.setCell ⟨m, 5, none⟩ vr') { o with v := v1, vr := vr' } := by
  obtain ⟨l0, x0, hw0, hc0⟩ := h.h.wi
  obtain ⟨hy, O3, hn3⟩ := hm
  have hs1 := O1.size
  have hs2 := B2.size
  have hs3 := O3.size
  have hmw : m < w.heap.size := h.b.lt
  have O4 : Only (At m) w3 (w3.setCell ⟨m, 5, none⟩ vr') := (Only.refl (At m) w3).store (p := ⟨m, 5, none⟩) (.inl (At.self m)) vr'
  have all : Only (own m o) w (w3.setCell ⟨m, 5, none⟩ vr') :=
    ((((O1.mono (fun i hi => .inr (.inr (.inl hi)))).trans (Only.of_below B2)).then O3 (fun i hi _ => .inr (.inr (.inr (.inr hi))))).store (p := ⟨m, 5, none⟩) (.inl (.inl rfl)) vr')
  have gw : ∀ {i : Nat} {ty : TypeId} {cs : Array Value}, Blk w i ty cs → ty ≠ 122 → ty ≠ 5 → ¬ Ww.own o.g o.v i ∧ ¬ ofR o.vr i := fun {i ty cs} hb h1 h2 => by
    refine ⟨fun e => ?_, fun e => ?_⟩
    · rcases e with rfl | e
      · exact Blk.apart hb hw0.b h1 rfl
      · exact own_apart hw0.o hb (fun e => h2 e.symm) _ e rfl
    · obtain ⟨cur, hb3⟩ := h.h.y.blk e
      exact Blk.apart hb hb3 h2 rfl
  have v1b : ∀ i, v1.ownBlock = some i → o.v.ownBlock = some i ∨ w.heap.size ≤ i := fun i hi => by
    rcases hl with e | ⟨j, hj, e⟩
    · exact .inl (by rw [← e]; exact hi)
    · rw [e] at hi; injection hi with hi; exact .inr (by omega)
  have gone : ∀ i, ofR vr' i → ofR o.vr i ∨ w2.heap.size ≤ i := hn3
  refine ⟨⟨?_, ⟨?_, ⟨l1, x1, ?_, hc⟩, ?_, ?_, ?_, ?_, ?_⟩⟩, ⟨all, ?_⟩⟩
  · have g := gw h.b (by decide) (by decide)
    have b3 := ((h.b.only O1 g.1).below B2).only O3 g.2
    exact b3.store 5 vr'
  · have g := gw h.h.r (by decide) (by decide)
    exact (((h.h.r.only O1 g.1).below B2).only O3 g.2).only O4 (h.ne (.inl rfl))
  · refine ((hW.below B2).only O3 ?_).only O4 ?_
    · rintro i (rfl | hi) e
      · obtain ⟨cur, hb3⟩ := h.h.y.blk e
        exact Blk.apart hb3 hw0.b (by decide) rfl
      · rcases v1b i hi with h1 | h1
        · exact h.h.a i h1 e
        · have := h.h.y.lt e; omega
    · rintro i (rfl | hi) e
      · exact h.ne (.inr (.inl (.inl rfl))) e
      · obtain rfl : i = m := e
        rcases v1b i hi with h1 | h1
        · exact h.ne (.inr (.inl (.inr h1))) rfl
        · omega
  · refine (((h.h.s.only O1 ?_).below B2).only O3 ?_).only O4 ?_
    · intro i hi e
      obtain ⟨ty, cs, hb, hk⟩ := h.h.kind (.inr (.inr (.inl hi)))
      rcases e with rfl | e
      · exact own_apart h.h.s hw0.b (by decide) _ hi rfl
      · rcases hw0.o.2 with ⟨e0, _⟩ | ⟨g, cap, cur, e0, _, hh, _⟩
        · rw [e0] at e; cases e
        · rw [e0] at e
          obtain rfl : g = i := by simpa [Value.ownBlock] using e
          exact own_apart (cs := cur) (t := 5) h.h.s hh (by decide) _ hi rfl
    · intro i hi e
      obtain ⟨cur, hb3⟩ := h.h.y.blk e
      exact own_apart h.h.s hb3 (by decide) _ hi rfl
    · intro i hi e
      exact h.ne (.inr (.inr (.inl hi))) e
  · have e : (s.T ++ c).drop k = s.T.drop k ++ c := List.drop_append_of_le_length h.h.k
    show rdy _ vr' ((s.T ++ c).drop k)
    rw [e]
    refine hy.only O4 (fun i hi e => ?_)
    obtain rfl : i = m := e
    rcases gone i hi with h1 | h1
    · exact h.ne (.inr (.inr (.inr h1))) rfl
    · omega
  · show k ≤ (s.T ++ c).length
    have := h.h.k
    rw [List.length_append]; omega
  · exact nxt_off (o := { o with v := v1, vr := vr' }) (by have := h.h.n; exact (show nxt w { o with v := v1, vr := vr' } s.nx by unfold nxt at this ⊢; exact this)) all (fun i hi _ => h.notab hi)
  · intro i hi e
    have hlt := hW.hi i (.inr hi)
    rcases gone i e with h2 | h2
    · rcases v1b i hi with h1 | h1
      · exact h.h.a i h1 h2
      · have := h.h.y.lt h2; omega
    · omega
  · rintro i (rfl | rfl | (rfl | hi) | hi | hi)
    · exact .inl (.inl rfl)
    · exact .inl (.inr (.inl rfl))
    · exact .inl (.inr (.inr (.inl (.inl rfl))))
    · rcases v1b i hi with h1 | h1
      · exact .inl (.inr (.inr (.inl (.inr h1))))
      · exact .inr h1
    · exact .inl (.inr (.inr (.inr (.inl hi))))
    · rcases gone i hi with h1 | h1
      · exact .inl (.inr (.inr (.inr (.inr h1))))
      · exact .inr (by omega)

/-- A table is read: nothing there; a symbol. -/
theorem tRead_no {w : World} {g n r : Nat} {l : List Nat} {s : ByteArray} {a : Nat} (hl : code l) (hn : n = l.length) (ht : tabl w g n l) (hr : rd w r s a) (hs : s.size ≤ 281474976710656) (ha : a ≤ 8 * s.size) (hg : got l (num s.data.toList) a (8 * s.size - a) = none) :
    Calls Tryz.prog 132 #[.pointer (some ⟨g, 0, none⟩), .pointer (some ⟨r, 0, none⟩)] w fun e w' => e = .returned (.tuple #[.int .i64 0, .int .i64 (gotE l (num s.data.toList) a (8 * s.size - a))]) ∧ rd w' r s a ∧ Only (At r) w w' := by
  refine (Read_any hl.h15 hl.ks hl.len hn ht hr hs ha).mono ?_
  rintro e w' ⟨rfl, r1, _, o1⟩
  have e1 : gotS l (num s.data.toList) a (8 * s.size - a) = 0 := by unfold gotS; rw [hg]
  have e2 : gotA l (num s.data.toList) a (8 * s.size - a) = a := by unfold gotA; rw [hg]
  rw [e2] at r1
  exact ⟨by rw [e1], r1, o1⟩
theorem tRead_yes {w : World} {g n r j : Nat} {l : List Nat} {s : ByteArray} {a : Nat} (hl : code l) (hn : n = l.length) (ht : tabl w g n l) (hr : rd w r s a) (hs : s.size ≤ 281474976710656) (ha : a ≤ 8 * s.size) (hg : got l (num s.data.toList) a (8 * s.size - a) = some j) :
    Calls Tryz.prog 132 #[.pointer (some ⟨g, 0, none⟩), .pointer (some ⟨r, 0, none⟩)] w fun e w' => e = .returned (.tuple #[.int .i64 (j : Int), .int .i64 0]) ∧ rd w' r s (a + nth l j) ∧ Only (At r) w w' := by
  refine (Read_any hl.h15 hl.ks hl.len hn ht hr hs ha).mono ?_
  rintro e w' ⟨rfl, r1, _, o1⟩
  have e1 : gotS l (num s.data.toList) a (8 * s.size - a) = (j : Int) := by unfold gotS; rw [hg]
  have e2 : gotA l (num s.data.toList) a (8 * s.size - a) = a + nth l j := by unfold gotA; rw [hg]
  have e3 : gotE l (num s.data.toList) a (8 * s.size - a) = 0 := by unfold gotE; rw [hg]
  rw [e2] at r1
  exact ⟨by rw [e1, e3], r1, o1⟩

/-- What a copy's symbol begins, from behind it on. -/
noncomputable def copM (Di : List Nat) (N M a i len : Nat) : Sy :=
  if 285 < i then .err 9 else if M - a < lb (i - 257) then .err 2 else disM Di N M (a + lb (i - 257)) (lB (i - 257) + peekN N a (lb (i - 257))) len
theorem sym_cop {Li Di : List Nat} {N M a i len : Nat} (g : got Li N a (M - a) = some i) (h : 256 < i) : symM Li Di N M a len = copM Di N M (a + nth Li i) i len := by
  unfold symM copM; rw [g]; simp only; rw [if_neg (by omega), if_neg (by omega)]
/-- What comes of it. -/
def aft (s : St) (M : Nat) (p : List UInt8) (y : Sy) (x : Int) (a' : Nat) (T' : List UInt8) : Prop :=
  match y with
  | .err e => x = e ∧ T' = s.T ∧ s.a ≤ a' ∧ a' ≤ M
  | .copy b n d => x = 0 ∧ a' = b ∧ T' = s.T ++ Wm.out (p ++ s.T) d n
  | _ => False
def copies (w : World) (m : Nat) (t : ByteArray) (p : List UInt8) (o : Ob) (k : Nat) (s : St) (y : Sy) (e : Ending) (w' : World) : Prop :=
  ∃ x a' T' o', e = .returned (.int .i64 x) ∧ aft s (8 * t.size) p y x a' T' ∧ mach w' m t p o' k { s with a := a', T := T' } ∧ did w m o w' o'

set_option maxHeartbeats 2000000 in
set_option maxRecDepth 100000 in
theorem copied_any {w : World} {m : Nat} {t : ByteArray} {p : List UInt8} {o : Ob} {k : Nat} {s : St} {Li Di : List Nat} (h : mach w m t p o k s) (hx : s.nx = .sym Li Di) (hD : code Di) {i : Nat} (hi : 256 < i) (hi2 : i ≤ 1000) (hs : t.size ≤ 281474976710656) (ha : s.a ≤ 8 * t.size) (hT : s.T.length ≤ 9000000) :
    Calls Tryz.prog 133 #[.pointer (some ⟨m, 0, none⟩), .int .i64 (i : Int)] w (copies w m t p o k s (copM Di (num t.data.toList) (8 * t.size) s.a i (p ++ s.T).length)) := by
  obtain ⟨ta, tb, htl, htd, hta, htb⟩ : ∃ a b, o.tl = some ⟨a, 0, none⟩ ∧ o.td = some ⟨b, 0, none⟩ ∧ tabl w a Li.length Li ∧ tabl w b Di.length Di := by
    have hn := h.h.n
    rw [hx] at hn
    exact hn
  have c1 : w.cell? ⟨m, 1, none⟩ = some (.pointer (some ⟨o.r, 0, none⟩)) := h.b.cell 1
  have H := Lib.hid h
  have HX := Lib.hid hx
  have HA := Lib.hid ha
  have HS := Lib.hid hs
  have HT := Lib.hid hT
  obtain ⟨len, hlen⟩ : ∃ len, len = (p ++ s.T).length := ⟨_, rfl⟩
  rw [← hlen]
  have HLN := Lib.hid hlen
  clear hlen
  rcases (show 285 < i ∨ i ≤ 285 by omega) with h1 | h1
  · have HN := Lib.hid (numLength_no (z := (i : Int)) (by omega) (by omega) h.h.r)
    have HY : Hid (copM Di (num t.data.toList) (8 * t.size) s.a i len = .err 9) := Lib.hid (by unfold copM; rw [if_pos h1])
    clear h hx ha hs hT hta htb htl htd
    go_enter Tryz.func133, Tryz.ntmps133
    go_wp2_with (go_at_call 161; refine HN.out.mono ?_; rintro e w1 ⟨rfl, r1, o1⟩)
    go_ret
    have g := H.out.read o1 r1
    exact ⟨9, s.a, s.T, o, rfl, by rw [HY.out]; exact ⟨rfl, rfl, Nat.le_refl _, HA.out⟩, g.1, g.2⟩
  · obtain ⟨q, hq⟩ : ∃ q, i = q + 257 := ⟨i - 257, by omega⟩
    have hq28 : q ≤ 28 := by omega
    have hz : (i : Int) - 257 = (q : Int) := by omega
    have hq' : i - 257 = q := by omega
    rcases (show 8 * t.size - s.a < lb q ∨ s.a + lb q ≤ 8 * t.size by omega) with h2 | h2
    · have HN := Lib.hid (numLength_short hz hq28 h.h.r hs ha h2)
      have HY : Hid (copM Di (num t.data.toList) (8 * t.size) s.a i len = .err 2) := Lib.hid (by unfold copM; rw [if_neg (by omega), hq', if_pos h2])
      clear h hx ha hs hT hta htb htl htd h2 hz hq' hq
      go_enter Tryz.func133, Tryz.ntmps133
      go_wp2_with (go_at_call 161; refine HN.out.mono ?_; rintro e w1 ⟨rfl, r1, o1⟩)
      go_ret
      have g := H.out.read o1 r1
      exact ⟨2, s.a, s.T, o, rfl, by rw [HY.out]; exact ⟨rfl, rfl, Nat.le_refl _, HA.out⟩, g.1, g.2⟩
    · have HN := numLength_has hz hq28 h.h.r hs h2
      have hY : copM Di (num t.data.toList) (8 * t.size) s.a i len = disM Di (num t.data.toList) (8 * t.size) (s.a + lb q) (lB q + peekN (num t.data.toList) s.a (lb q)) len := by unfold copM; rw [if_neg (by omega), hq', if_neg (by omega)]
      have h3 := lB_sum hq28 (peekN_lt (num t.data.toList) s.a (lb q))
      obtain ⟨n, hn⟩ : ∃ n, n = lB q + peekN (num t.data.toList) s.a (lb q) := ⟨_, rfl⟩
      obtain ⟨a1, ha1⟩ : ∃ a1, a1 = s.a + lb q := ⟨_, rfl⟩
      rw [← hn, ← ha1] at HN hY
      rw [← hn] at h3
      rw [← ha1] at h2
      have HLE : Hid (s.a ≤ a1) := Lib.hid (by omega)
      have HN := Lib.hid HN
      have H2 := Lib.hid h2
      have HTA := Lib.hid hta
      have HTB := Lib.hid htb
      have HTD := Lib.hid htd
      have H3 := Lib.hid h3
      obtain ⟨y, hy⟩ : ∃ y, y = disM Di (num t.data.toList) (8 * t.size) a1 n len := ⟨_, rfl⟩
      rw [← hy] at hY
      have HDM := Lib.hid hy
      rw [hY]
      clear h hx ha hs hT hta htb htl htd hz hq' hY hn ha1 hq28 hq h2 h3 hy
      go_enter Tryz.func133, Tryz.ntmps133
      go_wp2_with (go_at_call 161; refine HN.out.mono ?_; rintro e w1 ⟨rfl, r1, o1⟩; have R1 := Lib.hid r1; have O1 := Lib.hid o1; clear r1 o1; have G1 := Lib.hid (H.out.read O1.out R1.out))
      have M1 : Hid (mach w1.drew m t p o k { s with a := a1 }) := Lib.hid (G1.out.1.below ((Below.refl _ w1).drew))
      have D1 : Hid (did w m o w1.drew o) := Lib.hid (G1.out.2.trans (did.below ((Below.refl _ w1).drew)))
      have d1 : w1.cell? ⟨m, 1, none⟩ = some (.pointer (some ⟨o.r, 0, none⟩)) := G1.out.1.b.cell 1
      have d11 : w1.cell? ⟨m, 11, none⟩ = some (.pointer (some ⟨tb, 0, none⟩)) := by rw [← HTD.out]; exact G1.out.1.b.cell 11
      have TB1 : Hid (tabl w1.drew tb Di.length Di) := Lib.hid (tabl_off HTB.out (O1.out.drew) (fun i hi _ => by obtain rfl : i = o.r := hi; exact ⟨_, _, H.out.h.r, by decide, by decide, by decide⟩))
      rcases hg : got Di (num t.data.toList) a1 (8 * t.size - a1) with _ | j
      · have HR := Lib.hid (tRead_no hD rfl TB1.out M1.out.h.r HS.out H2.out hg)
        have hE := gotE_pos (num t.data.toList) a1 (8 * t.size - a1) hg
        have HY : Hid (y = .err (gotE Di (num t.data.toList) a1 (8 * t.size - a1))) := Lib.hid (by rw [HDM.out]; exact dis_none hg)
        obtain ⟨E, hEE⟩ : ∃ E, E = gotE Di (num t.data.toList) a1 (8 * t.size - a1) := ⟨_, rfl⟩
        rw [← hEE] at HR HY hE
        have hE' : (E != 0) = true := by simp [hE]
        clear hg hEE hE
        go_region_held3 (fun u => u.cell? ⟨m, 1, none⟩ = some (.pointer (some ⟨o.r, 0, none⟩)) ∧ u.cell? ⟨m, 11, none⟩ = some (.pointer (some ⟨tb, 0, none⟩)))
          (first | exact ⟨d1, d11⟩ | assumption)
          (first | (go_at_call 132; refine HR.out.mono ?_; rintro e w2 ⟨rfl, r2, o2⟩; have G2 := Lib.hid (M1.out.read o2 r2); have k2 : w2.cell? ⟨m, 1, none⟩ = some (.pointer (some ⟨o.r, 0, none⟩)) ∧ w2.cell? ⟨m, 11, none⟩ = some (.pointer (some ⟨tb, 0, none⟩)) := ⟨G2.out.1.b.cell 1, by (rw [← HTD.out]; exact G2.out.1.b.cell 11)⟩))
        go_wp2
        go_ret
        exact ⟨E, a1, s.T, o, rfl, by rw [HY.out]; exact ⟨rfl, rfl, HLE.out, H2.out⟩, G2.out.1, D1.out.trans G2.out.2⟩
      · have HJ := Lib.hid (got_pos hD.h15 hg)
        have HR := tRead_yes hD rfl TB1.out M1.out.h.r HS.out H2.out hg
        obtain ⟨a2, ha2⟩ : ∃ a2, a2 = a1 + nth Di j := ⟨_, rfl⟩
        rw [← ha2] at HR
        have HR := Lib.hid HR
        have H22 : Hid (a2 ≤ 8 * t.size) := Lib.hid (by have := HJ.out; have := H2.out; omega)
        have HL2 : Hid (a1 ≤ a2) := Lib.hid (by omega)
        have HA2 := Lib.hid ha2
        have HG := Lib.hid hg
        clear hg ha2
        go_region_held3 (fun u => u.cell? ⟨m, 1, none⟩ = some (.pointer (some ⟨o.r, 0, none⟩)) ∧ u.cell? ⟨m, 11, none⟩ = some (.pointer (some ⟨tb, 0, none⟩)))
          (first | exact ⟨d1, d11⟩ | assumption)
          (first | (go_at_call 132; refine HR.out.mono ?_; rintro e w2 ⟨rfl, r2, o2⟩; have G2 := Lib.hid (M1.out.read o2 r2); have k2 : w2.cell? ⟨m, 1, none⟩ = some (.pointer (some ⟨o.r, 0, none⟩)) ∧ w2.cell? ⟨m, 11, none⟩ = some (.pointer (some ⟨tb, 0, none⟩)) := ⟨G2.out.1.b.cell 1, by (rw [← HTD.out]; exact G2.out.1.b.cell 11)⟩))
        have M2 : Hid (mach w2 m t p o k { s with a := a2 }) := Lib.hid G2.out.1
        have D2 : Hid (did w m o w2 o) := Lib.hid (D1.out.trans G2.out.2)
        have e1 : w2.cell? ⟨m, 1, none⟩ = some (.pointer (some ⟨o.r, 0, none⟩)) := M2.out.b.cell 1
        clear r2 o2 G2 k2 HR d1 d11 TB1 M1 D1 R1 O1 G1 HN
        rcases (show 29 < j ∨ j < 30 by omega) with hj | hj
        · have HY : Hid (y = .err 9) := Lib.hid (by rw [HDM.out]; exact dis_code HG.out hj)
          have HN := Lib.hid (numDist_no (z := (j : Int)) (by omega) (by have := HJ.out.1; have := hD.len; omega) M2.out.h.r)
          go_wp2_with (go_at_call 161; refine HN.out.mono ?_; rintro e w3 ⟨rfl, r3, o3⟩)
          go_ret
          have g := M2.out.read o3 r3
          exact ⟨9, a2, s.T, o, rfl, by rw [HY.out]; exact ⟨rfl, rfl, by have := HLE.out; have := HL2.out; omega, H22.out⟩, g.1, D2.out.trans g.2⟩
        · rcases (show 8 * t.size - a2 < fb 2 j ∨ a2 + fb 2 j ≤ 8 * t.size by have := H22.out; omega) with h4 | h4
          · have HY : Hid (y = .err 2) := Lib.hid (by rw [HDM.out]; exact dis_short HG.out hj (by rw [← HA2.out]; exact h4))
            have HN := Lib.hid (numDist_short hj M2.out.h.r HS.out H22.out h4)
            clear h4
            go_wp2_with (go_at_call 161; refine HN.out.mono ?_; rintro e w3 ⟨rfl, r3, o3⟩)
            go_ret
            have g := M2.out.read o3 r3
            exact ⟨2, a2, s.T, o, rfl, by rw [HY.out]; exact ⟨rfl, rfl, by have := HLE.out; have := HL2.out; omega, H22.out⟩, g.1, D2.out.trans g.2⟩
          · have HN := numDist_has hj M2.out.h.r HS.out h4
            have h5 := dB_sum hj (peekN_lt (num t.data.toList) a2 (fb 2 j))
            have h6 : len < dB j + peekN (num t.data.toList) a2 (fb 2 j) → y = .err 10 := fun hd => by rw [HDM.out]; exact dis_far HG.out hj (by rw [← HA2.out]; omega) (by rw [← HA2.out]; exact hd)
            have h7 : ¬ len < dB j + peekN (num t.data.toList) a2 (fb 2 j) → y = .copy (a2 + fb 2 j) n (dB j + peekN (num t.data.toList) a2 (fb 2 j)) := fun hd => by rw [HDM.out, HA2.out]; exact dis_copy HG.out hj (by rw [← HA2.out]; omega) (by rw [← HA2.out]; exact hd)
            obtain ⟨D, hDe⟩ : ∃ D, D = dB j + peekN (num t.data.toList) a2 (fb 2 j) := ⟨_, rfl⟩
            obtain ⟨a3, ha3⟩ : ∃ a3, a3 = a2 + fb 2 j := ⟨_, rfl⟩
            rw [← hDe, ← ha3] at HN h7
            rw [← hDe] at h5 h6
            rw [← ha3] at h4
            have HN := Lib.hid HN
            have H5 := Lib.hid h5
            have H6 := Lib.hid h6
            have H7 := Lib.hid h7
            have H34 : Hid (s.a ≤ a3 ∧ a3 ≤ 8 * t.size) := Lib.hid (by have := HLE.out; have := HL2.out; omega)
            clear h5 h6 h7 h4 hDe ha3
            obtain ⟨R, hR⟩ : ∃ R, R = 16777216 - s.T.length := ⟨_, rfl⟩
            have hR2 : 258 < R := by have := HT.out; omega
            have HRM : Hid (∀ u, mach u m t p o k { s with a := a3 } → Calls Tryz.prog 128 #[.pointer (some ⟨m, 0, none⟩)] u fun e w' => e = .returned (.int .i64 (R : Int)) ∧ ∃ nd, w' = u.drewN nd) := Lib.hid (fun u hu => by rw [hR]; exact room_any (s := { s with a := a3 }) hu (by have := HT.out; show s.T.length ≤ 10000000; omega))
            clear hR
            go_wp2_with (go_at_call 161; refine HN.out.mono ?_; rintro e w3 ⟨rfl, r3, o3⟩; have M3 := Lib.hid (M2.out.read o3 r3); clear r3 o3)
            refine (HRM.out _ M3.out.1).mono ?_
            rintro e w4' ⟨rfl, nd, hw4⟩
            have M4 : Hid (mach w4' m t p o k { s with a := a3 } ∧ did w m o w4' o) := Lib.hid (by rw [hw4]; exact ⟨M3.out.1.draws nd, D2.out.trans (M3.out.2.trans (did.below (below_draws w3 nd)))⟩)
            clear hw4 M3 M2 D2
            have e2 : w4'.cell? ⟨m, 2, none⟩ = some (.pointer (some ⟨o.g, 0, none⟩)) := M4.out.1.b.cell 2
            have hnR : (n : Int) ≤ (R : Int) := by have := H3.out.2; omega
            have hmin : min (n : Int) (R : Int) = (n : Int) := by omega
            have hRn : ¬ ((R : Int) < (n : Int)) := by omega
            obtain ⟨l0, x0, hw0, hc0⟩ := M4.out.1.h.wi
            have hlen0 : l0.length = min 32768 len := by rw [← cont_length l0 x0, hc0, Wm.lastN_length, HLN.out]
            by_cases hfar : len < D
            · have HY := Lib.hid (H6.out hfar)
              have hce : copE l0.length D n = 10 := by
                have := H5.out; have := H3.out
                unfold copE; rw [if_neg (by omega), if_pos (by omega)]
              have HC := Copy_no hw0 (D : Int) (n : Int) (by rw [hce]; decide)
              rw [hce] at HC
              have HC := Lib.hid HC
              clear hce hw0 hc0 hlen0 hfar
              go_wp2_with (go_at_call 164; refine HC.out.mono ?_; rintro e w5 ⟨rfl, rfl⟩)
              go_ret
              exact ⟨10, a3, s.T, o, rfl, by rw [HY.out]; exact ⟨rfl, rfl, H34.out.1, H34.out.2⟩, M4.out.1, M4.out.2⟩
            · have HY := Lib.hid (H7.out hfar)
              have HC := Lib.hid (Copy_ok hw0 (D := D) (N := n) (by have := H3.out; omega) (by have := H5.out; omega) (by have := H5.out; omega))
              have HO : Hid (Wm.out (cont l0 x0) D n = Wm.out (p ++ s.T) D n) := Lib.hid (by rw [hc0]; exact Wm.out_cut (by have := H5.out; omega) (by have := H5.out; omega) (by rw [← HLN.out]; omega) n)
              have HC0 := Lib.hid hc0
              clear hw0 hc0 hlen0 hfar
              go_wp2_with fail
              refine HC.out.mono ?_
              rintro e w5 ⟨rfl, v1, l1, x1, hW, hc1, O5, hl5⟩
              have HW := Lib.hid hW
              have HC1 := Lib.hid hc1
              have H5O := Lib.hid O5
              have HL5 := Lib.hid hl5
              clear hW hc1 O5 hl5
              obtain ⟨S, hS⟩ : ∃ S : ByteArray, S = ⟨(Wm.out (cont l0 x0) D n).toArray⟩ := ⟨_, rfl⟩
              rw [← hS]
              have HSl : Hid (S.data.toList = Wm.out (p ++ s.T) D n) := Lib.hid (by rw [hS, ← HO.out])
              have HSz : Hid (S.size = n) := Lib.hid (by show S.data.size = n; rw [← Array.length_toList, HSl.out, Wm.out_length])
              clear hS
              have hb5 : Blk w5 m 66 (mc m o k s.e s.nx s.fin) := M4.out.1.b.only H5O.out (fun e => M4.out.1.ne (.inr (.inl e)) rfl)
              have f5 : w5.cell? ⟨m, 5, none⟩ = some o.vr := hb5.cell 5
              have hy5 : rdy w5 o.vr (s.T.drop k) := M4.out.1.h.y.only H5O.out (fun i hi e => by
                obtain ⟨cur, hb3⟩ := M4.out.1.h.y.blk hi
                obtain ⟨l9, x9, hw9, _⟩ := M4.out.1.h.wi
                rcases e with rfl | e
                · exact Blk.apart hb3 hw9.b (by decide) rfl
                · exact M4.out.1.h.a i e hi)
              have HB5 := Lib.hid hb5
              have HY5 := Lib.hid hy5
              obtain ⟨VR, hVR⟩ : ∃ VR, VR = o.vr := ⟨_, rfl⟩
              have HVR := Lib.hid hVR
              rw [← hVR] at f5
              obtain ⟨A5, cap5, hvr5, _⟩ := hy5.form
              obtain ⟨n5, hn5⟩ : ∃ n5, n5 = (s.T.drop k).length := ⟨_, rfl⟩
              rw [← hn5, ← hVR] at hvr5
              subst hvr5
              clear hb5 hy5 hn5 hVR
              have HLM : Hid ((s.T.drop k).length + S.size ≤ 1000000000) := Lib.hid (by have := HT.out; have := HSz.out; have := H3.out; rw [List.length_drop]; omega)
              have HY6 : Hid (rdy w5 (.slice A5 n5 cap5) (s.T.drop k)) := Lib.hid (by rw [HVR.out]; exact HY5.out)
              have HLT : Hid (m < w5.heap.size) := Lib.hid HB5.out.lt
              have HF6 : Hid (∀ w6, Only (ofR o.vr) w5 w6 → w6.frozen? ⟨m, 5, none⟩ = false ∧ w6.cell? ⟨m, 5, none⟩ = some o.vr) := Lib.hid (fun w6 h6 => (fun hb => ⟨Blk.frozen hb 5, Blk.cell hb 5⟩) (HB5.out.only h6 (fun e => by
                obtain ⟨cur, hb3⟩ := HY5.out.blk e
                exact Blk.apart hb3 HB5.out (by decide) rfl)))
              go_wp2_with (at_builtin; refine wpList_rdy_str rfl _ _ rfl (.slice A5 n5 cap5) rfl (s.T.drop k) HY6.out S rfl HLM.out ?_; intro A6 n6 cap6 w6 h6; have f6 : w6.frozen? ⟨m, 5, none⟩ = false := (HF6.out w6 (by rw [← HVR.out]; exact h6.out.2.1)).1; have c6 : w6.cell? ⟨m, 5, none⟩ = some (.slice A5 n5 cap5) := by (rw [HVR.out]; exact (HF6.out w6 (by rw [← HVR.out]; exact h6.out.2.1)).2))
              go_ret
              have hm6 := h6.out
              rw [HVR.out, HSl.out] at hm6
              have hc5 : cont l1 x1 = Wm.lastN 32768 (p ++ (s.T ++ Wm.out (p ++ s.T) D n)) := by
                rw [HC1.out, HO.out, HC0.out, ← List.append_assoc]
                exact Wm.lastN_cut _ _ _
              have g := mach_grow M4.out.1 HW.out hc5 H5O.out HL5.out (Below.refl _ _) hm6
              exact ⟨0, a3, s.T ++ Wm.out (p ++ s.T) D n, _, rfl, by rw [HY.out]; exact ⟨rfl, rfl, rfl⟩, g.1, M4.out.2.trans g.2⟩
end Go.Proofs.YtnkninjdpgpkmaaGreatDoor.Ie
namespace Go.Proofs.YtnkninjdpgpkmaaGreatDoor.If
open Go.RowKit Go.Proofs.YtnkninjdpgpkmaaGreatDoor.Vm Go.Proofs.YtnkninjdpgpkmaaGreatDoor.Bm Go.Proofs.YtnkninjdpgpkmaaGreatDoor.Bw Go.Proofs.YtnkninjdpgpkmaaGreatDoor.Br Go.Proofs.YtnkninjdpgpkmaaGreatDoor.Bs Go.Proofs.YtnkninjdpgpkmaaGreatDoor.Wr Go.Proofs.YtnkninjdpgpkmaaGreatDoor.Wc Go.Proofs.YtnkninjdpgpkmaaGreatDoor.Ww Go.Proofs.YtnkninjdpgpkmaaGreatDoor.Wd Go.Proofs.YtnkninjdpgpkmaaGreatDoor.Wp Go.Proofs.YtnkninjdpgpkmaaGreatDoor.Nm Go.Proofs.YtnkninjdpgpkmaaGreatDoor.Pm Go.Proofs.YtnkninjdpgpkmaaGreatDoor.Pg Go.Proofs.YtnkninjdpgpkmaaGreatDoor.Ph Go.Proofs.YtnkninjdpgpkmaaGreatDoor.Sm Go.Proofs.YtnkninjdpgpkmaaGreatDoor.Fm Go.Proofs.YtnkninjdpgpkmaaGreatDoor.Im Go.Proofs.YtnkninjdpgpkmaaGreatDoor.Ia Go.Proofs.YtnkninjdpgpkmaaGreatDoor.Ib Go.Proofs.YtnkninjdpgpkmaaGreatDoor.Ic Go.Proofs.YtnkninjdpgpkmaaGreatDoor.Id Go.Proofs.YtnkninjdpgpkmaaGreatDoor.Ie

/-- What a block's function leaves. -/
def goes (a0 : Nat) (w : World) (m : Nat) (t : ByteArray) (p : List UInt8) (o : Ob) (k : Nat) (s : St) (e : Ending) (w' : World) : Prop :=
  ∃ x s' o', e = .returned (.int .i64 x) ∧ mach w' m t p o' k s' ∧ did w m o w' o' ∧ s'.e = 0 ∧ inv (num t.data.toList) (8 * t.size) a0 p { s' with e := x } ∧ St.far (8 * t.size) { s' with e := x } < St.far (8 * t.size) s
theorem far_err {M : Nat} {s : St} (he : s.e = 0) {x : Int} (hx : x ≠ 0) {a' : Nat} (ha : s.a ≤ a') {T' : List UInt8} : St.far M { s with e := x, a := a', T := T' } < St.far M s := by
  unfold St.far
  simp only [he, hx, if_true, if_false]
  omega
theorem far_on {M : Nat} {s : St} (he : s.e = 0) {a' : Nat} (ha : s.a < a') (hM : a' ≤ M) {T' : List UInt8} : St.far M { s with e := 0, a := a', T := T' } < St.far M s := by
  unfold St.far
  simp only [he, if_true]
  omega
theorem far_fin {M : Nat} {s : St} (he : s.e = 0) {a' : Nat} (hn : s.nx.num = 1) (ha : s.a ≤ a') {T' : List UInt8} : St.far M { s with e := 0, nx := .no, a := a', T := T' } < St.far M s := by
  have e : Nx.num .no = 0 := rfl
  unfold St.far
  simp only [he, hn, e, if_true]
  omega

set_option maxHeartbeats 2000000 in
set_option maxRecDepth 100000 in
theorem symbol_any {a0 : Nat} {w : World} {m : Nat} {t : ByteArray} {p : List UInt8} {o : Ob} {k : Nat} {s : St} {Li Di : List Nat} (h : mach w m t p o k s) (hv : inv (num t.data.toList) (8 * t.size) a0 p s) (he : s.e = 0) (hx : s.nx = .sym Li Di) (h6 : limM (num t.data.toList) t.size a0 p) :
    Calls Tryz.prog 98 #[.pointer (some ⟨m, 0, none⟩)] w (goes a0 w m t p o k s) := by
  obtain ⟨ta, tb, htl, htd, hta, htb⟩ : ∃ a b, o.tl = some ⟨a, 0, none⟩ ∧ o.td = some ⟨b, 0, none⟩ ∧ tabl w a Li.length Li ∧ tabl w b Di.length Di := by
    have hn := h.h.n
    rw [hx] at hn
    exact hn
  have hcode : code Li ∧ code Di := by have := hv.nx; rw [hx] at this; exact this
  have HL := Lib.hid hcode.1
  have HD := Lib.hid hcode.2
  have HT : Hid (s.T.length ≤ 9000000) := Lib.hid (hv.fewT h6)
  have HS : Hid (t.size ≤ 281474976710656) := Lib.hid (by have := h6.z; omega)
  have HA := Lib.hid hv.le
  have HTL := Lib.hid htl
  have HE := Lib.hid he
  have HX := Lib.hid hx
  have HV := Lib.hid hv
  have H := Lib.hid h
  have c1 : w.cell? ⟨m, 1, none⟩ = some (.pointer (some ⟨o.r, 0, none⟩)) := h.b.cell 1
  have c10 : w.cell? ⟨m, 10, none⟩ = some (.pointer (some ⟨ta, 0, none⟩)) := by rw [← htl]; exact h.b.cell 10
  have M1 : Hid (mach w.drew m t p o k s) := Lib.hid (h.below (Below.refl _ w).drew)
  have D1 : Hid (did w m o w.drew o) := Lib.hid (did.below (Below.refl _ w).drew)
  have TA1 : Hid (tabl w.drew ta Li.length Li) := Lib.hid (tabl.below hta (Below.refl _ w).drew)
  clear h hv he hx htl htd hta htb hcode h6
  rcases hg : got Li (num t.data.toList) s.a (8 * t.size - s.a) with _ | i
  · have HR := Lib.hid (tRead_no HL.out rfl TA1.out M1.out.h.r HS.out HA.out hg)
    have hE := gotE_pos (num t.data.toList) s.a (8 * t.size - s.a) hg
    have HY := Lib.hid (sym_none (Li := Li) (Di := Di) (len := (p ++ s.T).length) hg)
    obtain ⟨E, hEE⟩ : ∃ E, E = gotE Li (num t.data.toList) s.a (8 * t.size - s.a) := ⟨_, rfl⟩
    rw [← hEE] at HR HY hE
    have hE' : (E != 0) = true := by simp [hE]
    have HE0 := Lib.hid hE
    clear hg hEE hE
    go_enter Tryz.func98, Tryz.ntmps98
    go_wp2_with fail
    go_region_held3 (fun u => u.cell? ⟨m, 1, none⟩ = some (.pointer (some ⟨o.r, 0, none⟩)) ∧ u.cell? ⟨m, 10, none⟩ = some (.pointer (some ⟨ta, 0, none⟩)))
      (first | exact ⟨c1, c10⟩ | assumption)
      (first | (go_at_call 132; refine HR.out.mono ?_; rintro e w2 ⟨rfl, r2, o2⟩; have G2 := Lib.hid (M1.out.read o2 r2); have k2 : w2.cell? ⟨m, 1, none⟩ = some (.pointer (some ⟨o.r, 0, none⟩)) ∧ w2.cell? ⟨m, 10, none⟩ = some (.pointer (some ⟨ta, 0, none⟩)) := ⟨G2.out.1.b.cell 1, by (rw [← HTL.out]; exact G2.out.1.b.cell 10)⟩))
    go_wp2
    go_ret
    exact ⟨E, s, o, rfl, G2.out.1, D1.out.trans G2.out.2, HE.out, HV.out.sym_no HE.out HX.out HY.out HE0.out (Nat.le_refl _) HA.out, far_err (T' := s.T) HE.out HE0.out (Nat.le_refl _)⟩
  · have hp := got_pos HL.out.h15 hg
    have HR := tRead_yes HL.out rfl TA1.out M1.out.h.r HS.out HA.out hg
    obtain ⟨a1, ha1⟩ : ∃ a1, a1 = s.a + nth Li i := ⟨_, rfl⟩
    rw [← ha1] at HR
    have HR := Lib.hid HR
    have HA1 : Hid (s.a < a1 ∧ a1 ≤ 8 * t.size ∧ i < 320) := Lib.hid (by have := HA.out; have := HL.out.len; omega)
    have HAE := Lib.hid ha1
    have HG := Lib.hid hg
    clear hg ha1 hp
    go_enter Tryz.func98, Tryz.ntmps98
    go_wp2_with fail
    go_region_held3 (fun u => u.cell? ⟨m, 1, none⟩ = some (.pointer (some ⟨o.r, 0, none⟩)) ∧ u.cell? ⟨m, 10, none⟩ = some (.pointer (some ⟨ta, 0, none⟩)))
      (first | exact ⟨c1, c10⟩ | assumption)
      (first | (go_at_call 132; refine HR.out.mono ?_; rintro e w2 ⟨rfl, r2, o2⟩; have G2 := Lib.hid (M1.out.read o2 r2); have k2 : w2.cell? ⟨m, 1, none⟩ = some (.pointer (some ⟨o.r, 0, none⟩)) ∧ w2.cell? ⟨m, 10, none⟩ = some (.pointer (some ⟨ta, 0, none⟩)) := ⟨G2.out.1.b.cell 1, by (rw [← HTL.out]; exact G2.out.1.b.cell 10)⟩))
    have M2 : Hid (mach w2 m t p o k { s with a := a1 }) := Lib.hid G2.out.1
    have D2 : Hid (did w m o w2 o) := Lib.hid (D1.out.trans G2.out.2)
    clear r2 o2 G2 k2 HR c1 c10 TA1 M1 D1
    rcases (show 256 < i ∨ i = 256 ∨ i < 256 by omega) with hi | hi | hi
    · have hi' : (256 : Int) < (i : Int) := by omega
      have HC := Lib.hid (copied_any M2.out (Li := Li) (Di := Di) HX.out HD.out hi (by have := HA1.out; omega) HS.out HA1.out.2.1 HT.out)
      have HY : Hid (symM Li Di (num t.data.toList) (8 * t.size) s.a (p ++ s.T).length = copM Di (num t.data.toList) (8 * t.size) a1 i (p ++ s.T).length) := Lib.hid (by rw [HAE.out]; exact sym_cop HG.out hi)
      clear hi
      go_wp2_with (go_at_call 133; refine HC.out.mono ?_; rintro e w3 ⟨x, a2, T2, o2, rfl, hx2, m2, d2⟩)
      go_ret
      rcases hy : copM Di (num t.data.toList) (8 * t.size) a1 i (p ++ s.T).length with er | a' | ⟨a', b⟩ | ⟨a', n, d⟩
      · have hx3 : aft { s with a := a1 } (8 * t.size) p (copM Di (num t.data.toList) (8 * t.size) a1 i (p ++ s.T).length) x a2 T2 := hx2
        rw [hy] at hx3
        obtain ⟨e1, e2, e3, e4⟩ := hx3
        have e2' : T2 = s.T := e2
        have e3' : a1 ≤ a2 := e3
        subst e1
        have hY := HY.out.trans hy
        have ho := sym_ok (Li := Li) (Di := Di) (N := num t.data.toList) (M := 8 * t.size) (a := s.a) (len := (p ++ s.T).length) HL.out.h15 HD.out.h15 HA.out
        rw [hY] at ho
        have ho : x ≠ 0 := ho
        subst e2'
        have hle : s.a ≤ a2 := by have := HA1.out; omega
        exact ⟨x, { s with a := a2 }, o2, rfl, m2, D2.out.trans d2, HE.out, HV.out.sym_no HE.out HX.out hY ho hle e4, far_err (T' := s.T) HE.out ho hle⟩
      · have hx3 : aft { s with a := a1 } (8 * t.size) p (copM Di (num t.data.toList) (8 * t.size) a1 i (p ++ s.T).length) x a2 T2 := hx2
        rw [hy] at hx3
        exact hx3.elim
      · have hx3 : aft { s with a := a1 } (8 * t.size) p (copM Di (num t.data.toList) (8 * t.size) a1 i (p ++ s.T).length) x a2 T2 := hx2
        rw [hy] at hx3
        exact hx3.elim
      · have hx3 : aft { s with a := a1 } (8 * t.size) p (copM Di (num t.data.toList) (8 * t.size) a1 i (p ++ s.T).length) x a2 T2 := hx2
        rw [hy] at hx3
        obtain ⟨e1, e2, e3⟩ := hx3
        have e3' : T2 = s.T ++ Wm.out (p ++ s.T) d n := e3
        have hY := HY.out.trans hy
        have ho := sym_ok (Li := Li) (Di := Di) (N := num t.data.toList) (M := 8 * t.size) (a := s.a) (len := (p ++ s.T).length) HL.out.h15 HD.out.h15 HA.out
        rw [hY] at ho
        obtain ⟨q1, q2, q3, q4, _⟩ := ho
        subst e1; subst e2; subst e3'
        have he0 := HE.out
        have key := HV.out.sym_copy HE.out HX.out hY q1 q2 q4
        have e9 : ({ ({ s with a := a2, T := s.T ++ Wm.out (p ++ s.T) d n } : St) with e := 0 } : St) = { s with a := a2, T := s.T ++ Wm.out (p ++ s.T) d n } := by rw [← he0]
        exact ⟨0, { s with a := a2, T := s.T ++ Wm.out (p ++ s.T) d n }, o2, rfl, m2, D2.out.trans d2, HE.out, by rw [e9]; exact key, far_on HE.out q1 q2⟩
    · have HG2 := HG.out
      have hY := sym_fin (Li := Li) (Di := Di) (len := (p ++ s.T).length) HG2 hi
      rw [← HAE.out] at hY
      have HY := Lib.hid hY
      have f7 : w2.frozen? ⟨m, 7, none⟩ = false := M2.out.b.frozen 7
      have c7 : w2.cell? ⟨m, 7, none⟩ = some (.func (.func 98) #[] #[]) := by
        have k := M2.out.b.cell 7
        have e : nf s.nx = .func (.func 98) #[] #[] := by rw [HX.out]; rfl
        rw [← e]; exact k
      have h256 : ¬ ((256 : Int) < (i : Int)) := by omega
      have hne : ((i : Int) == 256) = true := by simp; omega
      have hst : (store ⟨m, 7, none⟩ .nilFunc).run Tryz.prog w2 = .ok () (w2.setCell ⟨m, 7, none⟩ .nilFunc) := by rw [run_store _ _ _ _ _ rfl, c7]; simp [f7]
      clear hY HG2 hi
      go_wp2
      go_ret
      have g := M2.out.store 7 .nilFunc
      refine ⟨0, { s with nx := .no, a := a1 }, o, rfl, ⟨g.1, ⟨g.2.1.r, g.2.1.wi, g.2.1.s, g.2.1.y, g.2.1.k, trivial, g.2.1.a⟩⟩, D2.out.trans ⟨g.2.2, fun _ h => .inl h⟩, HE.out, ?_, far_fin (a' := a1) (T' := s.T) HE.out (by rw [HX.out]; rfl) (by have := HA1.out; omega)⟩
      have k := HV.out.sym_fin HE.out HX.out HY.out (by have := HA1.out; omega) HA1.out.2.1
      have e9 : ({ ({ s with nx := .no, a := a1 } : St) with e := 0 } : St) = { s with nx := .no, a := a1 } := by rw [← HE.out]
      rw [e9]; exact k
    · obtain ⟨y, hy⟩ : ∃ y : UInt8, y = UInt8.ofNat i := ⟨_, rfl⟩
      have hyn : y.toNat = i := by rw [hy]; simp; omega
      have HYY := Lib.hid hy
      have hY := sym_byte (Li := Li) (Di := Di) (len := (p ++ s.T).length) HG.out hi
      rw [← HAE.out] at hY
      have HY := Lib.hid hY
      have h256 : ¬ ((256 : Int) < (i : Int)) := by omega
      have hne : ((i : Int) == 256) = false := by simp; omega
      have hu8 : IntKind.u8.wrap (i : Int) = (i : Int) := by rw [IntKind.wrap_u8]; omega
      obtain ⟨R, hR⟩ : ∃ R, R = 16777216 - s.T.length := ⟨_, rfl⟩
      have hR2 : ((R : Int) == 0) = false := by have := HT.out; simp; omega
      have HRM : Hid (∀ u, mach u m t p o k { s with a := a1 } → Calls Tryz.prog 128 #[.pointer (some ⟨m, 0, none⟩)] u fun e w' => e = .returned (.int .i64 (R : Int)) ∧ ∃ nd, w' = u.drewN nd) := Lib.hid (fun u hu => by rw [hR]; exact room_any (s := { s with a := a1 }) hu (by have := HT.out; show s.T.length ≤ 10000000; omega))
      have HIY := Lib.hid hyn
      clear hR hY hy hi hyn
      go_wp2_with fail
      refine (HRM.out _ M2.out).mono ?_
      rintro e w3 ⟨rfl, nd, hw3⟩
      have M3 : Hid (mach w3 m t p o k { s with a := a1 } ∧ did w m o w3 o) := Lib.hid (by rw [hw3]; exact ⟨M2.out.draws nd, D2.out.trans (did.below (below_draws w2 nd))⟩)
      have e2 : w3.cell? ⟨m, 2, none⟩ = some (.pointer (some ⟨o.g, 0, none⟩)) := M3.out.1.b.cell 2
      clear hw3 M2 D2 HRM
      go_wp2_with fail
      have HB1 : Hid (Below w3.heap.size w3 (w3.alloc (.cells #[.int .u8 (i : Int)] 5)).drew) := Lib.hid ((Below.refl _ w3).alloc (Nat.le_refl _) _).drew
      have M5 : Hid (mach (w3.alloc (.cells #[.int .u8 (i : Int)] 5)).drew m t p o k { s with a := a1 } ∧ did w m o (w3.alloc (.cells #[.int .u8 (i : Int)] 5)).drew o) := Lib.hid ⟨M3.out.1.below HB1.out, M3.out.2.trans (did.below HB1.out)⟩
      have e2b : (w3.alloc (.cells #[.int .u8 (i : Int)] 5)).drew.cell? ⟨m, 2, none⟩ = some (.pointer (some ⟨o.g, 0, none⟩)) := M5.out.1.b.cell 2
      obtain ⟨S, hS⟩ : ∃ S : ByteArray, S = ⟨#[y]⟩ := ⟨_, rfl⟩
      have hcv : (convert 62 9 (.slice (some ⟨w3.heap.size, 0, none⟩) 1 1)).run Tryz.prog (w3.alloc (.cells #[.int .u8 (i : Int)] 5)).drew = .ok (.string S) (w3.alloc (.cells #[.int .u8 (i : Int)] 5)).drew := by
        rw [hS]
        refine run_convert_bytes_back (P := Tryz.prog) _ 62 9 5 ⟨w3.heap.size, 0, none⟩ 1 [y] Tryz.underlying62 Tryz.underlying5 Tryz.underlying9 (fun j hj => ?_)
        obtain rfl : j = 0 := by simp at hj; omega
        have hb : Blk (w3.alloc (.cells #[.int .u8 (i : Int)] 5)).drew w3.heap.size 5 #[.int .u8 (i : Int)] := Blk.fresh w3 _ _
        have hc := hb.cell 0
        have e0 : (⟨w3.heap.size, 0, none⟩ : Addr).add 0 = ⟨w3.heap.size, 0, none⟩ := by simp [Addr.add]
        rw [e0, hc]
        show some (Value.int IntKind.u8 (i : Int)) = some (Value.int IntKind.u8 (y.toNat : Int))
        rw [HIY.out]
      have HSz : Hid (S.size = 1 ∧ S.data.toList = [y]) := Lib.hid (by rw [hS]; exact ⟨rfl, rfl⟩)
      obtain ⟨l0, x0, hw0, hc0⟩ := M5.out.1.h.wi
      have HC0 := Lib.hid hc0
      have HP := Lib.hid (Put_any hw0 S (by rw [HSz.out.1]; omega))
      clear hS hw0 hc0
      go_region_law
        (first | (go_simp; go_at_call 61; refine HP.out.mono ?_; rintro e w5 ⟨rfl, v1, l1, x1, hW, hc1, O5, hl5⟩; have k5 : w5.cell? ⟨m, 2, none⟩ = some (.pointer (some ⟨o.g, 0, none⟩)) := (M5.out.1.b.only O5 (fun e => M5.out.1.ne (.inr (.inl e)) rfl)).cell 2))
      all_goals
        have HW := Lib.hid hW
        have HC1 := Lib.hid hc1
        have H5O := Lib.hid O5
        have HL5 := Lib.hid hl5
        clear hW hc1 O5 hl5 k5
        have hb5 : Blk w5 m 66 (mc m o k s.e s.nx s.fin) := M5.out.1.b.only H5O.out (fun e => M5.out.1.ne (.inr (.inl e)) rfl)
        have f5 : w5.cell? ⟨m, 5, none⟩ = some o.vr := hb5.cell 5
        have hy5 : rdy w5 o.vr (s.T.drop k) := M5.out.1.h.y.only H5O.out (fun i hi e => by
          obtain ⟨cur, hb3⟩ := M5.out.1.h.y.blk hi
          obtain ⟨l9, x9, hw9, _⟩ := M5.out.1.h.wi
          rcases e with rfl | e
          · exact Blk.apart hb3 hw9.b (by decide) rfl
          · exact M5.out.1.h.a i e hi)
        have HB5 := Lib.hid hb5
        have HY5 := Lib.hid hy5
        obtain ⟨VR, hVR⟩ : ∃ VR, VR = o.vr := ⟨_, rfl⟩
        have HVR := Lib.hid hVR
        rw [← hVR] at f5
        obtain ⟨A5, cap5, hvr5, _⟩ := hy5.form
        obtain ⟨n5, hn5⟩ : ∃ n5, n5 = (s.T.drop k).length := ⟨_, rfl⟩
        rw [← hn5, ← hVR] at hvr5
        clear hVR
        subst hvr5
        clear hb5 hy5 hn5
        obtain ⟨w6, hw6⟩ : ∃ w6, w6 = w5.alloc (.cells #[.int .u8 (i : Int)] 5) := ⟨_, rfl⟩
        have HBL : Hid (Below w5.heap.size w5 w6) := Lib.hid (by rw [hw6]; exact (Below.refl _ w5).alloc (Nat.le_refl _) _)
        have HAD : Hid (w6.cell? ⟨w5.heap.size, 0, none⟩ = some (B y)) := Lib.hid (by rw [hw6, (Blk.fresh w5 5 #[.int .u8 (i : Int)]).cell 0]; show some (Value.int IntKind.u8 (i : Int)) = some (Value.int IntKind.u8 (y.toNat : Int)); rw [HIY.out])
        have HLM : Hid ((s.T.drop k).length + 1 ≤ 1000000000) := Lib.hid (by have := HT.out; rw [List.length_drop]; omega)
        have HY6 : Hid (rdy w6 (.slice A5 n5 cap5) (s.T.drop k)) := Lib.hid (by rw [HVR.out]; exact HY5.out.below HBL.out)
        have HF6 : Hid (∀ w7, Only (ofR o.vr) w6 w7 → w7.frozen? ⟨m, 5, none⟩ = false ∧ w7.cell? ⟨m, 5, none⟩ = some o.vr) := Lib.hid (fun w7 h7 => (fun hb => ⟨Blk.frozen hb 5, Blk.cell hb 5⟩) ((HB5.out.below HBL.out).only h7 (fun e => by
          obtain ⟨cur, hb3⟩ := HY5.out.blk e
          exact Blk.apart hb3 HB5.out (by decide) rfl)))
        go_wp2_with (at_builtin; rw [← hw6]; refine wpList_rdy_one rfl _ _ rfl (.slice A5 n5 cap5) rfl (s.T.drop k) HY6.out ⟨w5.heap.size, 0, none⟩ 1 1 y rfl rfl HAD.out HLM.out ?_; intro A6 n6 cap6 w7 h7; have f7 : w7.frozen? ⟨m, 5, none⟩ = false := (HF6.out w7 (by rw [← HVR.out]; exact h7.out.2.1)).1; have c7 : w7.cell? ⟨m, 5, none⟩ = some (.slice A5 n5 cap5) := by (rw [HVR.out]; exact (HF6.out w7 (by rw [← HVR.out]; exact h7.out.2.1)).2))
        go_ret
        have hm7 := h7.out
        rw [HVR.out] at hm7
        have hc5 : cont l1 x1 = Wm.lastN 32768 (p ++ (s.T ++ [y])) := by
          rw [HC1.out, HC0.out, HSz.out.2, ← List.append_assoc]
          exact Wm.lastN_cut _ _ _
        have g := mach_grow M5.out.1 HW.out hc5 H5O.out HL5.out HBL.out hm7
        have he0 := HE.out
        have key := HV.out.sym_byte HE.out HX.out HY.out HA1.out.1 HA1.out.2.1
        rw [← HYY.out] at key
        have e9 : ({ ({ s with a := a1, T := s.T ++ [y] } : St) with e := 0 } : St) = { s with a := a1, T := s.T ++ [y] } := by rw [← he0]
        exact ⟨0, { s with a := a1, T := s.T ++ [y] }, _, rfl, g.1, M5.out.2.trans g.2, HE.out, by rw [e9]; exact key, far_on HE.out HA1.out.1 HA1.out.2.1⟩
end Go.Proofs.YtnkninjdpgpkmaaGreatDoor.If
namespace Go.Proofs.YtnkninjdpgpkmaaGreatDoor.Ig
open Go.RowKit Go.Proofs.YtnkninjdpgpkmaaGreatDoor.Vm Go.Proofs.YtnkninjdpgpkmaaGreatDoor.Bm Go.Proofs.YtnkninjdpgpkmaaGreatDoor.Bw Go.Proofs.YtnkninjdpgpkmaaGreatDoor.Br Go.Proofs.YtnkninjdpgpkmaaGreatDoor.Bs Go.Proofs.YtnkninjdpgpkmaaGreatDoor.Wr Go.Proofs.YtnkninjdpgpkmaaGreatDoor.Wc Go.Proofs.YtnkninjdpgpkmaaGreatDoor.Ww Go.Proofs.YtnkninjdpgpkmaaGreatDoor.Wd Go.Proofs.YtnkninjdpgpkmaaGreatDoor.Wp Go.Proofs.YtnkninjdpgpkmaaGreatDoor.Fm Go.Proofs.YtnkninjdpgpkmaaGreatDoor.Im Go.Proofs.YtnkninjdpgpkmaaGreatDoor.Ia Go.Proofs.YtnkninjdpgpkmaaGreatDoor.Ib Go.Proofs.YtnkninjdpgpkmaaGreatDoor.Ic Go.Proofs.YtnkninjdpgpkmaaGreatDoor.Id Go.Proofs.YtnkninjdpgpkmaaGreatDoor.Ie Go.Proofs.YtnkninjdpgpkmaaGreatDoor.If

theorem sto_bytes (s : ByteArray) {p m : Nat} (h : p + m ≤ s.size) : (s.extract p (p + m)).data.toList = stoB (num s.data.toList) (8 * p) m := by
  have hl : s.data.toList.length = s.size := Array.length_toList
  have e1 : (s.extract p (p + m)).data.toList = (s.data.toList.drop p).take m := by
    have hsz : s.data.size = s.size := rfl
    rw [ByteArray.data_extract, Array.toList_extract, List.extract_eq_take_drop, Nat.add_sub_cancel_left]
  rw [e1]
  apply List.ext_getElem?
  intro i
  rw [List.getElem?_take, List.getElem?_drop]
  by_cases hi : i < m
  · rw [if_pos hi]
    have hlt : p + i < s.data.toList.length := by omega
    rw [List.getElem?_eq_getElem hlt]
    have hg := num_get s.data.toList (p + i) _ (List.getElem?_eq_getElem hlt)
    unfold stoB
    rw [List.getElem?_map, List.getElem?_range hi]
    simp only [Option.map_some]
    have e2 : peekN (num s.data.toList) (8 * p + 8 * i) 8 = s.data.toList[p + i].toNat := by
      rw [← hg, Nat.mul_add]; rfl
    rw [e2, UInt8.ofNat_toNat]
  · rw [if_neg hi, List.getElem?_eq_none (by rw [stoB_length]; omega)]

theorem store_next {w : World} {m : Nat} {t : ByteArray} {p : List UInt8} {o : Ob} {k : Nat} {s : St} (h : mach w m t p o k s) : (store ⟨m, 7, none⟩ .nilFunc).run Tryz.prog w = .ok () (w.setCell ⟨m, 7, none⟩ .nilFunc) := by
  have c7 : w.cell? ⟨m, 7, none⟩ = some (nf s.nx) := h.b.cell 7
  have f7 : w.frozen? ⟨m, 7, none⟩ = false := h.b.frozen 7
  rw [run_store _ _ _ _ _ rfl, c7]
  simp [f7]
set_option maxHeartbeats 2000000 in
set_option maxRecDepth 100000 in
theorem stored_any {a0 : Nat} {w : World} {m : Nat} {t : ByteArray} {p : List UInt8} {o : Ob} {k : Nat} {s : St} {q : Nat} (h : mach w m t p o k s) (hv : inv (num t.data.toList) (8 * t.size) a0 p s) (he : s.e = 0) (hx : s.nx = .sto q) (h6 : limM (num t.data.toList) t.size a0 p) :
    Calls Tryz.prog 96 #[.pointer (some ⟨m, 0, none⟩)] w (goes a0 w m t p o k s) := by
  have hq : o.q = (q : Int) := by have hn := h.h.n; rw [hx] at hn; exact hn
  have hok : s.a % 8 = 0 ∧ q ≤ 65535 := by have := hv.nx; rw [hx] at this; exact this
  obtain ⟨pp, hpp⟩ : ∃ pp, s.a = 8 * pp := ⟨s.a / 8, by omega⟩
  obtain ⟨th, hth⟩ : ∃ th, th = if (8 * t.size - s.a) / 8 < q then (8 * t.size - s.a) / 8 else q := ⟨_, rfl⟩
  have hle := hv.le
  have hth2 : pp + th ≤ t.size ∧ th ≤ q := by rw [hth]; split <;> omega
  have HT : Hid (s.T.length ≤ 9000000) := Lib.hid (hv.fewT h6)
  have hz6 := h6.z
  have HS : Hid (t.size ≤ 1000000) := Lib.hid hz6
  have HA := Lib.hid hv.le
  have HE := Lib.hid he
  have HX := Lib.hid hx
  have HV := Lib.hid hv
  have H := Lib.hid h
  have HTH := Lib.hid hth
  have HPP := Lib.hid hpp
  have HQ := Lib.hid hok.2
  have HOQ := Lib.hid hq
  have HTH2 := Lib.hid hth2
  have c1 : w.cell? ⟨m, 1, none⟩ = some (.pointer (some ⟨o.r, 0, none⟩)) := h.b.cell 1
  have c9 : w.cell? ⟨m, 9, none⟩ = some (.int .i64 (q : Int)) := by rw [← hq]; exact h.b.cell 9
  obtain ⟨X, hX⟩ : ∃ X, X = 8 * t.size - s.a := ⟨_, rfl⟩
  have HL : Hid (∀ u, Below w.heap.size w u → Calls Tryz.prog 127 #[.pointer (some ⟨o.r, 0, none⟩)] u fun e w' => e = .returned (.int .i64 (X : Int)) ∧ ∃ n, w' = u.drewN n) := Lib.hid (fun u hu => by rw [hX]; exact Left_any (h.h.r.below hu) (by omega) hle)
  have hquo : min (q : Int) (IntKind.i64.wrap ((X : Int) / 8)) = (th : Int) := by
    obtain ⟨Y, hY⟩ : ∃ Y, Y = X / 8 := ⟨_, rfl⟩
    have h8 : (X : Int) / 8 = (Y : Int) := by omega
    have hYs : Y ≤ 1000000 := by omega
    have hw : IntKind.i64.wrap (Y : Int) = (Y : Int) := by rw [IntKind.wrap_i64]; omega
    have hm : min q Y = th := by rw [hth, hY, hX]; split <;> omega
    rw [h8, hw, ← hm]
    omega
  have hX0 : (0 : Int) ≤ (X : Int) := by omega
  have HX2 : Hid (X = 8 * t.size - s.a) := Lib.hid hX
  clear h hv he hx h6 hz6 hok hpp hth hle hth2 hq hX
  go_enter Tryz.func96, Tryz.ntmps96
  go_wp2_with fail
  go_region_held3 (fun u => u.cell? ⟨m, 9, none⟩ = some (.int .i64 (q : Int)) ∧ u.cell? ⟨m, 1, none⟩ = some (.pointer (some ⟨o.r, 0, none⟩)) ∧ Below w.heap.size w u)
    (first | exact ⟨c9, c1, (Below.refl _ w).drew⟩ | exact ⟨c9, c1, below_draws w _⟩ | assumption)
    (first | (go_at_call 127; refine (HL.out _ (show _ ∧ _ ∧ Below _ w _ by assumption).2.2).mono ?_; rintro e w2 ⟨rfl, nd, rfl⟩))
  have M1 : Hid (mach (w.drewN (1 + nd)) m t p o k s ∧ did w m o (w.drewN (1 + nd)) o) := Lib.hid ⟨H.out.draws _, did.below (below_draws w _)⟩
  generalize w.drewN (1 + nd) = w1 at *
  obtain ⟨R, hR⟩ : ∃ R, R = 16777216 - s.T.length := ⟨_, rfl⟩
  have HRM : Hid (Calls Tryz.prog 128 #[.pointer (some ⟨m, 0, none⟩)] w1 fun e w' => e = .returned (.int .i64 (R : Int)) ∧ ∃ nd, w' = w1.drewN nd) := Lib.hid (by rw [hR]; exact room_any M1.out.1 (by have := HT.out; omega))
  have hmin : min (th : Int) (R : Int) = (th : Int) := by have := HT.out; have := HTH2.out; have := HS.out; omega
  have hnot : ¬ ((R : Int) < (th : Int)) := by omega
  clear hR c1 c9 hX0 HL
  clear hquo
  go_wp2_with fail
  refine HRM.out.mono ?_
  rintro e w2 ⟨rfl, nd2, hw2⟩
  have M2 : Hid (mach w2 m t p o k s ∧ did w m o w2 o) := Lib.hid (by rw [hw2]; exact ⟨M1.out.1.draws nd2, M1.out.2.trans (did.below (below_draws w1 nd2))⟩)
  clear hw2 HRM M1
  have c1 : w2.cell? ⟨m, 1, none⟩ = some (.pointer (some ⟨o.r, 0, none⟩)) := M2.out.1.b.cell 1
  have HB := Bytes_any (th : Int) M2.out.1.h.r (by have := HS.out; omega) HA.out (by have := HTH2.out; have := HQ.out; omega)
  have hbe : bytE t s.a (th : Int) = 0 := by
    have := HTH2.out; have := HPP.out
    unfold bytE; rw [if_neg (by omega), if_neg (by omega)]
  have hba : bytA t s.a (th : Int) = s.a + 8 * th := by unfold bytA; rw [if_pos hbe]; rfl
  have hbv : (bytV t s.a (th : Int)).data.toList = stoB (num t.data.toList) s.a th := by
    have e : bytV t s.a (th : Int) = t.extract pp (pp + th) := by
      unfold bytV; rw [if_pos hbe, HPP.out]; simp
    rw [e, HPP.out]; exact sto_bytes t HTH2.out.1
  obtain ⟨S, hS⟩ : ∃ S, S = bytV t s.a (th : Int) := ⟨_, rfl⟩
  rw [hbe, hba, ← hS] at HB
  rw [← hS] at hbv
  have HSl := Lib.hid hbv
  have HSz : Hid (S.size = th) := Lib.hid (by show S.data.size = th; rw [← Array.length_toList, hbv, stoB_length])
  have HB := Lib.hid HB
  obtain ⟨a1, ha1⟩ : ∃ a1, a1 = s.a + 8 * th := ⟨_, rfl⟩
  rw [← ha1] at HB
  have HA1 := Lib.hid ha1
  clear hbe hba hbv hS ha1
  go_wp2_with fail
  refine HB.out.mono ?_
  rintro e w3 ⟨rfl, r3, o3⟩
  have G3 := Lib.hid (M2.out.1.read o3 r3)
  have M3 : Hid (mach w3 m t p o k { s with a := a1 } ∧ did w m o w3 o) := Lib.hid ⟨G3.out.1, M2.out.2.trans G3.out.2⟩
  have c2 : w3.cell? ⟨m, 2, none⟩ = some (.pointer (some ⟨o.g, 0, none⟩)) := M3.out.1.b.cell 2
  clear r3 o3 G3 M2 HB c1
  obtain ⟨l0, x0, hw0, hc0⟩ := M3.out.1.h.wi
  have HC0 := Lib.hid hc0
  have HP := Lib.hid (Put_any hw0 S (by rw [HSz.out]; have := HTH2.out; have := HQ.out; omega))
  clear hw0 hc0
  go_wp2_with fail
  refine HP.out.mono ?_
  rintro e w5 ⟨rfl, v1, l1, x1, hW, hc1, O5, hl5⟩
  have HW := Lib.hid hW
  have HC1 := Lib.hid hc1
  have H5O := Lib.hid O5
  have HL5 := Lib.hid hl5
  clear hW hc1 O5 hl5 c2
  have hb5 : Blk w5 m 66 (mc m o k s.e s.nx s.fin) := M3.out.1.b.only H5O.out (fun e => M3.out.1.ne (.inr (.inl e)) rfl)
  have f5 : w5.cell? ⟨m, 5, none⟩ = some o.vr := hb5.cell 5
  have hy5 : rdy w5 o.vr (s.T.drop k) := M3.out.1.h.y.only H5O.out (fun i hi e => by
    obtain ⟨cur, hb3⟩ := M3.out.1.h.y.blk hi
    obtain ⟨l9, x9, hw9, _⟩ := M3.out.1.h.wi
    rcases e with rfl | e
    · exact Blk.apart hb3 hw9.b (by decide) rfl
    · exact M3.out.1.h.a i e hi)
  have HB5 := Lib.hid hb5
  have HY5 := Lib.hid hy5
  obtain ⟨VR, hVR⟩ : ∃ VR, VR = o.vr := ⟨_, rfl⟩
  have HVR := Lib.hid hVR
  rw [← hVR] at f5
  obtain ⟨A5, cap5, hvr5, _⟩ := hy5.form
  obtain ⟨n5, hn5⟩ : ∃ n5, n5 = (s.T.drop k).length := ⟨_, rfl⟩
  rw [← hn5, ← hVR] at hvr5
  clear hVR
  subst hvr5
  clear hb5 hy5 hn5
  have HLM : Hid ((s.T.drop k).length + S.size ≤ 1000000000) := Lib.hid (by have := HT.out; have := HSz.out; have := HTH2.out; have := HQ.out; rw [List.length_drop]; omega)
  have HY6 : Hid (rdy w5 (.slice A5 n5 cap5) (s.T.drop k)) := Lib.hid (by rw [HVR.out]; exact HY5.out)
  have HF6 : Hid (∀ w6, Only (ofR (.slice A5 n5 cap5)) w5 w6 → w6.frozen? ⟨m, 5, none⟩ = false ∧ w6.cell? ⟨m, 5, none⟩ = some (.slice A5 n5 cap5) ∧ w6.cell? ⟨m, 9, none⟩ = some (.int .i64 (q : Int))) := Lib.hid (by
    rw [HVR.out, ← HOQ.out]
    intro w6 h6
    have hb : Blk w6 m 66 (mc m o k s.e s.nx s.fin) := HB5.out.only h6 (fun e => by
      obtain ⟨cur, hb3⟩ := HY5.out.blk e
      exact Blk.apart hb3 HB5.out (by decide) rfl)
    exact ⟨Blk.frozen hb 5, Blk.cell hb 5, Blk.cell hb 9⟩)
  have HFIN : Hid (∀ A6 n6 cap6 w6, more w5 (.slice A5 n5 cap5) (s.T.drop k ++ S.data.toList) (.slice A6 n6 cap6) w6 → mach (w6.setCell ⟨m, 5, none⟩ (.slice A6 n6 cap6)) m t p { o with v := v1, vr := .slice A6 n6 cap6 } k { s with a := a1, T := s.T ++ stoB (num t.data.toList) s.a th } ∧ did w m o (w6.setCell ⟨m, 5, none⟩ (.slice A6 n6 cap6)) { o with v := v1, vr := .slice A6 n6 cap6 }) := Lib.hid (by
    intro A6 n6 cap6 w6 hm6
    rw [HVR.out, HSl.out] at hm6
    have hc5 : cont l1 x1 = Wm.lastN 32768 (p ++ (s.T ++ stoB (num t.data.toList) s.a th)) := by
      rw [HC1.out, HSl.out, HC0.out, ← List.append_assoc]
      exact Wm.lastN_cut _ _ _
    have g := mach_grow M3.out.1 HW.out hc5 H5O.out HL5.out (Below.refl _ _) hm6
    exact ⟨g.1, M3.out.2.trans g.2⟩)
  by_cases hsh : (8 * t.size - s.a) / 8 < q
  · have hlt : (th : Int) < (q : Int) := by have := HTH.out; rw [if_pos hsh] at this; omega
    have HSH := Lib.hid hsh
    clear hsh
    go_wp2_with (at_builtin; refine wpList_rdy_str rfl _ _ rfl (.slice A5 n5 cap5) rfl (s.T.drop k) HY6.out S rfl HLM.out ?_; intro A6 n6 cap6 w6 h6; have f6 : w6.frozen? ⟨m, 5, none⟩ = false := (HF6.out w6 h6.out.2.1).1; have c6 : w6.cell? ⟨m, 5, none⟩ = some (.slice A5 n5 cap5) := (HF6.out w6 h6.out.2.1).2.1; have c69 : w6.cell? ⟨m, 9, none⟩ = some (.int .i64 (q : Int)) := (HF6.out w6 h6.out.2.1).2.2; have M7 := Lib.hid (HFIN.out _ _ _ _ h6.out))
    go_ret
    have key := HV.out.sto_no HE.out HX.out HSH.out
    have e1 : th = (8 * t.size - s.a) / 8 := by have := HTH.out; rw [if_pos HSH.out] at this; exact this
    rw [← e1, ← HA1.out] at key
    have e9 : ({ ({ s with a := a1, T := s.T ++ stoB (num t.data.toList) s.a th } : St) with e := 2 } : St) = ⟨2, s.fin, s.nx, a1, s.T ++ stoB (num t.data.toList) s.a th, s.L⟩ := rfl
    exact ⟨2, { s with a := a1, T := s.T ++ stoB (num t.data.toList) s.a th }, _, rfl, M7.out.1, M7.out.2, HE.out, by rw [e9]; exact key, far_err (a' := a1) HE.out (by omega) (by have := HA1.out; omega)⟩
  · have hlt : ¬ ((th : Int) < (q : Int)) := by have := HTH.out; rw [if_neg hsh] at this; omega
    have HSH := Lib.hid hsh
    clear hsh
    go_wp2_with (at_builtin; refine wpList_rdy_str rfl _ _ rfl (.slice A5 n5 cap5) rfl (s.T.drop k) HY6.out S rfl HLM.out ?_; intro A6 n6 cap6 w6 h6; have f6 : w6.frozen? ⟨m, 5, none⟩ = false := (HF6.out w6 h6.out.2.1).1; have c6 : w6.cell? ⟨m, 5, none⟩ = some (.slice A5 n5 cap5) := (HF6.out w6 h6.out.2.1).2.1; have c69 : w6.cell? ⟨m, 9, none⟩ = some (.int .i64 (q : Int)) := (HF6.out w6 h6.out.2.1).2.2; have M7 := Lib.hid (HFIN.out _ _ _ _ h6.out); have hst := store_next M7.out.1)
    go_ret
    have key := HV.out.sto HE.out HX.out HSH.out
    have e1 : th = q := by have := HTH.out; rw [if_neg HSH.out] at this; exact this
    rw [← e1, ← HA1.out] at key
    have g := M7.out.1.store 7 .nilFunc
    have e9 : ({ ({ s with nx := .no, a := a1, T := s.T ++ stoB (num t.data.toList) s.a th } : St) with e := 0 } : St) = ⟨0, s.fin, .no, a1, s.T ++ stoB (num t.data.toList) s.a th, s.L⟩ := rfl
    exact ⟨0, { s with nx := .no, a := a1, T := s.T ++ stoB (num t.data.toList) s.a th }, _, rfl, ⟨g.1, ⟨g.2.1.r, g.2.1.wi, g.2.1.s, g.2.1.y, g.2.1.k, trivial, g.2.1.a⟩⟩, M7.out.2.trans ⟨g.2.2, fun _ h => .inl h⟩, HE.out, by rw [e9]; exact key, far_fin (a' := a1) HE.out (by rw [HX.out]; rfl) (by have := HA1.out; omega)⟩
end Go.Proofs.YtnkninjdpgpkmaaGreatDoor.Ig
