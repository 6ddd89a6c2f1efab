/-
  What a head that was read leads to; what a machine is behind a field's store, and behind a start that was laid.
  begin: the head of the next block.
  Conditions: as each theorem says.
-/
import Derived.Test.YtnkninjdpgpkmaaGreatDoorBbr
import Derived.Test.YtnkninjdpgpkmaaGreatDoorBbi
import Derived.Test.YtnkninjdpgpkmaaGreatDoorBaj
namespace Go.Proofs.YtnkninjdpgpkmaaGreatDoor.Ih
open Go.RowKit Go.Proofs.YtnkninjdpgpkmaaGreatDoor.Vm Go.Proofs.YtnkninjdpgpkmaaGreatDoor.Bm Go.Proofs.YtnkninjdpgpkmaaGreatDoor.Bw Go.Proofs.YtnkninjdpgpkmaaGreatDoor.Br Go.Proofs.YtnkninjdpgpkmaaGreatDoor.Bs Go.Proofs.YtnkninjdpgpkmaaGreatDoor.Na Go.Proofs.YtnkninjdpgpkmaaGreatDoor.Nm Go.Proofs.YtnkninjdpgpkmaaGreatDoor.Ni Go.Proofs.YtnkninjdpgpkmaaGreatDoor.Ne Go.Proofs.YtnkninjdpgpkmaaGreatDoor.Nh Go.Proofs.YtnkninjdpgpkmaaGreatDoor.Wr Go.Proofs.YtnkninjdpgpkmaaGreatDoor.Wc Go.Proofs.YtnkninjdpgpkmaaGreatDoor.Ww Go.Proofs.YtnkninjdpgpkmaaGreatDoor.Pg Go.Proofs.YtnkninjdpgpkmaaGreatDoor.Ph Go.Proofs.YtnkninjdpgpkmaaGreatDoor.Km Go.Proofs.YtnkninjdpgpkmaaGreatDoor.Kw Go.Proofs.YtnkninjdpgpkmaaGreatDoor.Ks Go.Proofs.YtnkninjdpgpkmaaGreatDoor.Kd Go.Proofs.YtnkninjdpgpkmaaGreatDoor.Ke Go.Proofs.YtnkninjdpgpkmaaGreatDoor.Kf Go.Proofs.YtnkninjdpgpkmaaGreatDoor.Ky Go.Proofs.YtnkninjdpgpkmaaGreatDoor.Kx Go.Proofs.YtnkninjdpgpkmaaGreatDoor.Kg Go.Proofs.YtnkninjdpgpkmaaGreatDoor.Fm Go.Proofs.YtnkninjdpgpkmaaGreatDoor.Fa Go.Proofs.YtnkninjdpgpkmaaGreatDoor.Gm Go.Proofs.YtnkninjdpgpkmaaGreatDoor.Ga Go.Proofs.YtnkninjdpgpkmaaGreatDoor.Im Go.Proofs.YtnkninjdpgpkmaaGreatDoor.Ia Go.Proofs.YtnkninjdpgpkmaaGreatDoor.Ib Go.Proofs.YtnkninjdpgpkmaaGreatDoor.Ic Go.Proofs.YtnkninjdpgpkmaaGreatDoor.Id Go.Proofs.YtnkninjdpgpkmaaGreatDoor.Ie Go.Proofs.YtnkninjdpgpkmaaGreatDoor.If Go.Proofs.YtnkninjdpgpkmaaGreatDoor.Ig

theorem fixL_len : fixL.length = 288 := by unfold fixL; simp only [List.length_append, List.length_replicate]
theorem fixD_len : fixD.length = 32 := by unfold fixD; simp only [List.length_replicate]
theorem okL_code {l : List Nat} (h : okL l) (hl : l.length ≤ 320) : code l := ⟨h.1, h.2, hl⟩
theorem code_err {l : List Nat} (h : code l) : err l.length (ix l) = 0 := by
  refine err_ok (bad_ok h.len (fun i _ => ?_)) ?_
  · have := h.h15 i
    unfold ix; omega
  · rw [L_ix]; have := h.ks; omega
/-- What a head that was read leads to. -/
theorem head_nx {N M a : Nat} (h : (headM N M a).1 = 0) : (nxOf (headM N M a).2.1).ok (headM N M a).2.2 := by
  have hk := peekN_lt N (a + 1) 2
  by_cases c1 : M - a < 3
  · rw [head_short c1] at h; cases h
  rcases (show peekN N (a + 1) 2 = 0 ∨ peekN N (a + 1) 2 = 1 ∨ peekN N (a + 1) 2 = 2 ∨ peekN N (a + 1) 2 = 3 by omega) with k | k | k | k
  · by_cases e : (stoM N M (a + 3)).1 = 0
    · rw [head_sto c1 k e]
      refine ⟨?_, (sto_facts e).1⟩
      unfold stoM at e ⊢
      by_cases c2 : M - (a + 3 + 7) / 8 * 8 < 32
      · rw [if_pos c2] at e; cases e
      · rw [if_neg c2] at e ⊢
        by_cases c3 : peekN N ((a + 3 + 7) / 8 * 8) 16 + peekN N ((a + 3 + 7) / 8 * 8 + 16) 16 ≠ 65535
        · rw [if_pos c3] at e; cases e
        · rw [if_neg c3]
          show ((a + 3 + 7) / 8 * 8 + 32) % 8 = 0
          omega
    · rw [head_sto_no c1 k e] at h; exact absurd h e
  · rw [head_fix c1 k]
    exact ⟨okL_code fixL_ok (show fixL.length ≤ 320 by rw [fixL_len]; omega), okL_code fixD_ok (show fixD.length ≤ 320 by rw [fixD_len]; omega)⟩
  · by_cases e : (dynM N M (a + 3)).1 = 0
    · rw [head_dyn c1 k e]
      obtain ⟨_, f2, _, f4, _, f6, _⟩ := dyn_facts e
      obtain ⟨g1, g2, _⟩ := fits_ok f6
      exact ⟨okL_code g1 (Nat.le_trans f2 (by omega)), okL_code g2 (Nat.le_trans f4 (by omega))⟩
    · rw [head_dyn_no c1 k e] at h; exact absurd h e
  · rw [head_no c1 k] at h; cases h

theorem sizeSt : (Tryz.prog.info? 56).map (·.size) = some 2 := by kernel_rfl
/-- So many blocks at most. -/
theorem all_count {N M : Nat} (m : Nat) : ∀ (a : Nat) (c : List UInt8) (k : Nat), M - a ≤ m → a ≤ M → (allM N M a c k).2.1.length ≤ M - a := by
  induction m with
  | zero =>
    intro a c k hm ha
    rcases all_cases N M a c with h | ⟨h, h2⟩ | ⟨h, h2, h3⟩
    · rw [all_head h]; exact Nat.zero_le _
    · have := head_bod h c; omega
    · have := head_bod h c; omega
  | succ m ih =>
    intro a c k hm ha
    rcases all_cases N M a c with h | ⟨h, h2⟩ | ⟨h, h2, h3⟩
    · rw [all_head h]; exact Nat.zero_le _
    · have := head_bod h c
      rw [all_stop h h2]
      show 1 ≤ M - a
      omega
    · have hb := head_bod h c
      obtain ⟨b, eb⟩ : ∃ b, b = bodM (headM N M a).2.1 N M (headM N M a).2.2 c := ⟨_, rfl⟩
      rw [all_next h h2 h3 eb]
      rw [← eb] at hb
      have := ih b.2.1 (c ++ b.2.2) (k + b.2.2.length) (by omega) hb.2
      simp only [List.length_cons]
      omega
theorem count {N M a0 : Nat} {p : List UInt8} {s : St} (h : inv N M a0 p s) (ha : a0 ≤ M) : s.L.length ≤ M := by
  have h1 := all_count (N := N) (M - a0) a0 p 0 (Nat.le_refl _) ha
  rw [h.f.l, List.length_append] at h1
  omega
/-- Of 600 bytes not too much comes. -/
theorem lim_600 {N z a0 : Nat} {p : List UInt8} (h : z ≤ 600) (ha : a0 ≤ 8 * z) : limM N z a0 p := by
  have h1 := (all_facts (N := N) (M := 8 * z) (8 * z - a0) a0 p 0 (Nat.le_refl _) ha).1
  have h2 := all_count (N := N) (M := 8 * z) (8 * z - a0) a0 p 0 (Nat.le_refl _) ha
  exact ⟨by omega, by omega, by omega⟩
/-- All of its blocks lie behind the program's own. -/
def low (m : Nat) (o : Ob) : Prop := ∀ i, own m o i → 0 < i
theorem did.low {w w' : World} {m : Nat} {o o' : Ob} (h : did w m o w' o') (hO : ordM w) (hl : Ih.low m o) : Ih.low m o' := fun i hi => by
  rcases h.nw i hi with h1 | h1
  · exact hl i h1
  · have := hO.1; omega
theorem did.ord {w w' : World} {m : Nat} {o o' : Ob} (h : did w m o w' o') (hO : ordM w) (hl : Ih.low m o) : ordM w' := hO.only h.on (fun e => by have := hl _ e; omega)

section
variable {w : World} {m : Nat} {t : ByteArray} {p : List UInt8} {o : Ob} {k : Nat} {s : St}
/-- A field is stored. -/
theorem set_err (h : mach w m t p o k s) (x : Int) : mach (w.setCell ⟨m, 6, none⟩ (.int .i64 x)) m t p o k { s with e := x } ∧ did w m o (w.setCell ⟨m, 6, none⟩ (.int .i64 x)) o :=
  ⟨⟨(h.store 6 (.int .i64 x)).1, (h.store 6 (.int .i64 x)).2.1⟩, ⟨(h.store 6 (.int .i64 x)).2.2, fun _ h => .inl h⟩⟩
theorem set_fin (h : mach w m t p o k s) (b : Bool) : mach (w.setCell ⟨m, 8, none⟩ (.bool b)) m t p o k { s with fin := b } ∧ did w m o (w.setCell ⟨m, 8, none⟩ (.bool b)) o :=
  ⟨⟨(h.store 8 (.bool b)).1, (h.store 8 (.bool b)).2.1⟩, ⟨(h.store 8 (.bool b)).2.2, fun _ h => .inl h⟩⟩
theorem set_size (h : mach w m t p o k s) (hn : s.nx = .no) (q : Int) : mach (w.setCell ⟨m, 9, none⟩ (.int .i64 q)) m t p { o with q := q } k s ∧ did w m o (w.setCell ⟨m, 9, none⟩ (.int .i64 q)) { o with q := q } := by
  have g := h.store 9 (.int .i64 q)
  exact ⟨⟨g.1, ⟨g.2.1.r, g.2.1.wi, g.2.1.s, g.2.1.y, g.2.1.k, by rw [hn]; exact trivial, g.2.1.a⟩⟩, ⟨g.2.2, fun _ h => .inl h⟩⟩
theorem set_lits (h : mach w m t p o k s) (hn : s.nx = .no) (u : Option Addr) : mach (w.setCell ⟨m, 10, none⟩ (.pointer u)) m t p { o with tl := u } k s ∧ did w m o (w.setCell ⟨m, 10, none⟩ (.pointer u)) { o with tl := u } := by
  have g := h.store 10 (.pointer u)
  exact ⟨⟨g.1, ⟨g.2.1.r, g.2.1.wi, g.2.1.s, g.2.1.y, g.2.1.k, by rw [hn]; exact trivial, g.2.1.a⟩⟩, ⟨g.2.2, fun _ h => .inl h⟩⟩
theorem set_dists (h : mach w m t p o k s) (hn : s.nx = .no) (u : Option Addr) : mach (w.setCell ⟨m, 11, none⟩ (.pointer u)) m t p { o with td := u } k s ∧ did w m o (w.setCell ⟨m, 11, none⟩ (.pointer u)) { o with td := u } := by
  have g := h.store 11 (.pointer u)
  exact ⟨⟨g.1, ⟨g.2.1.r, g.2.1.wi, g.2.1.s, g.2.1.y, g.2.1.k, by rw [hn]; exact trivial, g.2.1.a⟩⟩, ⟨g.2.2, fun _ h => .inl h⟩⟩
theorem set_next (h : mach w m t p o k s) {nx : Nx} (hx : nxt w o nx) : mach (w.setCell ⟨m, 7, none⟩ (nf nx)) m t p o k { s with nx := nx } ∧ did w m o (w.setCell ⟨m, 7, none⟩ (nf nx)) o := by
  have g := h.store 7 (nf nx)
  exact ⟨⟨g.1, ⟨g.2.1.r, g.2.1.wi, g.2.1.s, g.2.1.y, g.2.1.k, nxt_off hx g.2.2 (fun i hi _ => h.notab hi), g.2.1.a⟩⟩, ⟨g.2.2, fun _ h => .inl h⟩⟩
theorem run_next (h : mach w m t p o k s) (nx : Nx) : (store ⟨m, 7, none⟩ (nf nx)).run Tryz.prog w = .ok () (w.setCell ⟨m, 7, none⟩ (nf nx)) := by
  have c7 : w.cell? ⟨m, 7, none⟩ = some (nf s.nx) := h.b.cell 7
  have f7 : w.frozen? ⟨m, 7, none⟩ = false := h.b.frozen 7
  rw [run_store _ _ _ _ _ (by cases nx <;> rfl), c7]
  simp [f7]
theorem kinds (h : mach w m t p o k s) {i : Nat} (hi : own m o i) : ∃ ty cs, Blk w i ty cs ∧ ty ≠ 3 ∧ ty ≠ 143 := by
  rcases hi with rfl | hi
  · exact ⟨_, _, h.b, by decide, by decide⟩
  · obtain ⟨ty, cs, hb, h1⟩ := h.h.kind hi
    rcases h1 with ⟨rfl, _⟩ | ⟨rfl, _⟩ | ⟨rfl, _⟩ | ⟨rfl, _⟩ <;> exact ⟨_, _, hb, by decide, by decide⟩
theorem head_did {w' : World} {o' : Ob} {G : Nat} {cs : Array Value} (h : mach w m t p o k s) (d : did w m o w' o') (hb : Blk w G 143 cs) : Blk w' G 143 cs := hb.only d.on (fun e => by
  obtain ⟨ty, cs', hb', _, hne⟩ := kinds h e
  exact Blk.apart hb' hb hne rfl)
theorem lst_did {w' : World} {o' : Ob} {v : Value} {l : List Nat} (h : mach w m t p o k s) (d : did w m o w' o') (hl : lst w v l) : lst w' v l := hl.off d.on (fun i hi => by
  obtain ⟨ty, cs', hb', hne, _⟩ := kinds h hi
  exact ⟨ty, cs', hb', hne⟩)
/-- A block's start is laid behind the others. -/
theorem mach_start {w1 w2 : World} (h : mach w m t p o k s) (B : Below w.heap.size w w1) {a n gg cap : Nat} (hown : w2.ownsRow 0 56 2 (.slice (some ⟨gg, 0, none⟩) (s.L.length + 1) cap) (s.L.length + 1) (Ls s.L ++ [.int .i64 (a : Int), .int .i64 (n : Int)]))
    (hg : w1.grownBy w2 o.vs.ownBlock) (hat : o.vs.ownBlock = some gg ∨ w1.heap.size ≤ gg) :
    mach (w2.setCell ⟨m, 3, none⟩ (.slice (some ⟨gg, 0, none⟩) (s.L.length + 1) cap)) m t p { o with vs := .slice (some ⟨gg, 0, none⟩) (s.L.length + 1) cap } k { s with L := s.L ++ [(a, n)] }
      ∧ did w m o (w2.setCell ⟨m, 3, none⟩ (.slice (some ⟨gg, 0, none⟩) (s.L.length + 1) cap)) { o with vs := .slice (some ⟨gg, 0, none⟩) (s.L.length + 1) cap } := by
  have hsz := B.size
  have hmw : m < w.heap.size := h.b.lt
  have O1 : Only (fun i => o.vs.ownBlock = some i) w w2 := ⟨hg.os.trans B.os, hg.tape.trans B.tape, hg.output.trans B.output, Nat.le_trans B.size hg.size, fun i hi hS => (hg.block i (by omega) (fun e => hS e.symm)).trans (B.block i hi)⟩
  have O4 : Only (At m) w2 (w2.setCell ⟨m, 3, none⟩ (.slice (some ⟨gg, 0, none⟩) (s.L.length + 1) cap)) := (Only.refl (At m) w2).store (p := ⟨m, 3, none⟩) (.inl (At.self m)) _
  have all : Only (own m o) w (w2.setCell ⟨m, 3, none⟩ (.slice (some ⟨gg, 0, none⟩) (s.L.length + 1) cap)) :=
    (O1.mono (fun i hi => .inr (.inr (.inr (.inl hi))))).store (p := ⟨m, 3, none⟩) (.inl (.inl rfl)) _
  -- blocks of other kinds
  have sk : ∀ {i : Nat} {ty : TypeId} {cs : Array Value}, Blk w i ty cs → ty ≠ 56 → o.vs.ownBlock ≠ some i := fun hb hne e => own_apart h.h.s hb (fun e => hne e.symm) _ e rfl
  obtain ⟨l, x, hw, hc⟩ := h.h.wi
  refine ⟨⟨?_, ⟨?_, ⟨l, x, ?_, hc⟩, ?_, ?_, h.h.k, ?_, h.h.a⟩⟩, ⟨all, ?_⟩⟩
  · exact (h.b.only O1 (sk h.b (by decide))).store 3 _
  · exact (h.h.r.only O1 (sk h.h.r (by decide))).only O4 (h.ne (.inl rfl))
  · refine (hw.only O1 ?_).only O4 (fun i hi => h.ne (.inr (.inl hi)))
    rintro i (rfl | hi)
    · exact sk hw.b (by decide)
    · rcases hw.o.2 with ⟨e0, _⟩ | ⟨g, cp, cur, e0, _, hh, _⟩
      · rw [e0] at hi; cases hi
      · rw [e0] at hi
        obtain rfl : g = i := by simpa [Value.ownBlock] using hi
        exact sk (show Blk w g 5 cur from hh) (by decide)
  · have hl : strt 0 w2 (.slice (some ⟨gg, 0, none⟩) (s.L.length + 1) cap) (s.L ++ [(a, n)]) := by
      unfold strt
      rw [Ls_append, List.length_append]
      exact hown
    refine hl.only O4 (fun i hi e => ?_)
    obtain rfl : gg = i := by simpa [Value.ownBlock] using hi
    obtain rfl : gg = m := e
    rcases hat with h1 | h1
    · exact h.ne (.inr (.inr (.inl h1))) rfl
    · omega
  · refine (h.h.y.only O1 (fun i hi => ?_)).only O4 (fun i hi => h.ne (.inr (.inr (.inr hi))))
    obtain ⟨cur, hb3⟩ := h.h.y.blk hi
    exact sk hb3 (by decide)
  · exact nxt_off (o := { o with vs := .slice (some ⟨gg, 0, none⟩) (s.L.length + 1) cap }) (by have := h.h.n; unfold nxt at this ⊢; exact this) all (fun i hi _ => h.notab hi)
  · rintro i (rfl | rfl | hi | hi | hi)
    · exact .inl (.inl rfl)
    · exact .inl (.inr (.inl rfl))
    · exact .inl (.inr (.inr (.inl hi)))
    · obtain rfl : gg = i := by simpa [Value.ownBlock] using hi
      rcases hat with h1 | h1
      · exact .inl (.inr (.inr (.inr (.inl h1))))
      · exact .inr (by omega)
    · exact .inl (.inr (.inr (.inr (.inr hi))))
end

end Go.Proofs.YtnkninjdpgpkmaaGreatDoor.Ih
namespace Go.Proofs.YtnkninjdpgpkmaaGreatDoor.Ii
open Go.RowKit Go.Proofs.YtnkninjdpgpkmaaGreatDoor.Vm Go.Proofs.YtnkninjdpgpkmaaGreatDoor.Bm Go.Proofs.YtnkninjdpgpkmaaGreatDoor.Bw Go.Proofs.YtnkninjdpgpkmaaGreatDoor.Br Go.Proofs.YtnkninjdpgpkmaaGreatDoor.Bs Go.Proofs.YtnkninjdpgpkmaaGreatDoor.Na Go.Proofs.YtnkninjdpgpkmaaGreatDoor.Nm Go.Proofs.YtnkninjdpgpkmaaGreatDoor.Ni Go.Proofs.YtnkninjdpgpkmaaGreatDoor.Ne Go.Proofs.YtnkninjdpgpkmaaGreatDoor.Nh Go.Proofs.YtnkninjdpgpkmaaGreatDoor.Wr Go.Proofs.YtnkninjdpgpkmaaGreatDoor.Wc Go.Proofs.YtnkninjdpgpkmaaGreatDoor.Ww Go.Proofs.YtnkninjdpgpkmaaGreatDoor.Pg Go.Proofs.YtnkninjdpgpkmaaGreatDoor.Ph Go.Proofs.YtnkninjdpgpkmaaGreatDoor.Km Go.Proofs.YtnkninjdpgpkmaaGreatDoor.Kw Go.Proofs.YtnkninjdpgpkmaaGreatDoor.Ks Go.Proofs.YtnkninjdpgpkmaaGreatDoor.Kd Go.Proofs.YtnkninjdpgpkmaaGreatDoor.Ke Go.Proofs.YtnkninjdpgpkmaaGreatDoor.Kf Go.Proofs.YtnkninjdpgpkmaaGreatDoor.Ky Go.Proofs.YtnkninjdpgpkmaaGreatDoor.Kx Go.Proofs.YtnkninjdpgpkmaaGreatDoor.Kg Go.Proofs.YtnkninjdpgpkmaaGreatDoor.Fm Go.Proofs.YtnkninjdpgpkmaaGreatDoor.Fa Go.Proofs.YtnkninjdpgpkmaaGreatDoor.Gm Go.Proofs.YtnkninjdpgpkmaaGreatDoor.Ga Go.Proofs.YtnkninjdpgpkmaaGreatDoor.Im Go.Proofs.YtnkninjdpgpkmaaGreatDoor.Ia Go.Proofs.YtnkninjdpgpkmaaGreatDoor.Ib Go.Proofs.YtnkninjdpgpkmaaGreatDoor.Ic Go.Proofs.YtnkninjdpgpkmaaGreatDoor.Id Go.Proofs.YtnkninjdpgpkmaaGreatDoor.Ie Go.Proofs.YtnkninjdpgpkmaaGreatDoor.If Go.Proofs.YtnkninjdpgpkmaaGreatDoor.Ig Go.Proofs.YtnkninjdpgpkmaaGreatDoor.Ih

set_option maxHeartbeats 2000000 in
set_option maxRecDepth 100000 in
theorem begin_any {a0 : Nat} {w : World} {m : Nat} {t : ByteArray} {p : List UInt8} {o : Ob} {k : Nat} {s : St} (h : mach w m t p o k s) (hv : inv (num t.data.toList) (8 * t.size) a0 p s) (he : s.e = 0) (hx : s.nx = .no) (hf : s.fin = false) (hO : ordM w) (h6 : limM (num t.data.toList) t.size a0 p) (ha0 : a0 ≤ 8 * t.size) :
    Calls Tryz.prog 63 #[.pointer (some ⟨m, 0, none⟩)] w (goes a0 w m t p o k s) := by
  have HT : Hid (s.T.length ≤ 9000000) := Lib.hid (hv.fewT h6)
  have HS := Lib.hid h6
  have HA := Lib.hid hv.le
  have HE := Lib.hid he
  have HX := Lib.hid hx
  have HF := Lib.hid hf
  have HV := Lib.hid hv
  have H := Lib.hid h
  have HOO := Lib.hid hO
  have HA0 := Lib.hid ha0
  have c1 : w.cell? ⟨m, 1, none⟩ = some (.pointer (some ⟨o.r, 0, none⟩)) := h.b.cell 1
  have HAT := Lib.hid (At_any h.h.r)
  obtain ⟨a, ha⟩ : ∃ a, a = s.a := ⟨_, rfl⟩
  rw [← ha] at HAT
  have HAE := Lib.hid ha
  obtain ⟨n, hn⟩ : ∃ n, n = s.T.length := ⟨_, rfl⟩
  have HPR := Lib.hid (produced_any h (by have := HT.out; omega))
  rw [← hn] at HPR
  have HNE := Lib.hid hn
  clear h hv he hx hf hO h6 ha hn ha0
  go_enter Tryz.func63, Tryz.ntmps63
  go_wp2_with fail
  refine HAT.out.mono ?_
  rintro e w' ⟨rfl, rfl⟩
  go_wp2_with fail
  refine HPR.out.mono ?_
  rintro e w1 ⟨rfl, nd, hw1⟩
  have B1 : Hid (Below w'.heap.size w' w1) := Lib.hid (by rw [hw1]; exact below_draws w' nd)
  clear hw1
  obtain ⟨w2, hw2⟩ : ∃ w2, w2 = w1.alloc (.cells #[.int .i64 (a : Int), .int .i64 (n : Int)] 56) := ⟨_, rfl⟩
  obtain ⟨G, hG⟩ : ∃ G, G = w1.heap.size := ⟨_, rfl⟩
  have KS : Hid (Blk w2 G 56 #[.int .i64 (a : Int), .int .i64 (n : Int)]) := Lib.hid (by rw [hw2, hG]; exact Blk.fresh w1 _ _)
  have B2 : Hid (Below w'.heap.size w' w2) := Lib.hid (by rw [hw2]; exact grows B1.out ((Below.refl _ w1).alloc (Nat.le_refl _) _))
  have HGE : Hid (w'.heap.size ≤ G) := Lib.hid (by rw [hG]; exact B1.out.size)
  have M2 : Hid (mach w2 m t p o k s) := Lib.hid (H.out.below B2.out)
  have c1' : (w1.alloc (.cells #[.int .i64 (a : Int), .int .i64 (n : Int)] 56)).cell? ⟨m, 1, none⟩ = some (.pointer (some ⟨o.r, 0, none⟩)) := by rw [← hw2]; exact M2.out.b.cell 1
  go_wp2_with fail
  rw [← hw2, ← hG]
  clear hw2 hG c1'
  have HRD := Read_all M2.out.h.r (HOO.out.below B2.out) (by have := HS.out.z; omega) HA.out
  unfold reads at HRD
  obtain ⟨er, her⟩ : ∃ er, er = (headM (num t.data.toList) (8 * t.size) s.a).1 := ⟨_, rfl⟩
  obtain ⟨hd, hhd⟩ : ∃ hd, hd = (headM (num t.data.toList) (8 * t.size) s.a).2.1 := ⟨_, rfl⟩
  obtain ⟨a1, ha1⟩ : ∃ a1, a1 = (headM (num t.data.toList) (8 * t.size) s.a).2.2 := ⟨_, rfl⟩
  rw [← her, ← hhd, ← ha1] at HRD
  have HRD := Lib.hid HRD
  have HER := Lib.hid her
  have HHD := Lib.hid hhd
  have HA1 := Lib.hid ha1
  clear her hhd ha1
  refine HRD.out.mono ?_
  rintro e w3 ⟨b, kk, z, A1, n1, cp1, A2, n2, cp2, rfl, hH, r3, o3⟩
  have HH := Lib.hid hH
  have M3 := Lib.hid (M2.out.read o3 r3)
  have KS3 : Hid (Blk w3 G 56 #[.int .i64 (a : Int), .int .i64 (n : Int)]) := Lib.hid (KS.out.only o3 (fun e => by
    have h1 : G = o.r := e
    have h2 := H.out.h.r.lt
    have h3 := HGE.out
    omega))
  clear hH r3 o3 HRD KS c1
  obtain ⟨w4, hw4⟩ : ∃ w4, w4 = w3.alloc (.cells #[.bool b, .int .i64 kk, .int .i64 z, .slice A1 n1 cp1, .slice A2 n2 cp2] 143) := ⟨_, rfl⟩
  obtain ⟨G2, hG2⟩ : ∃ G2, G2 = w3.heap.size := ⟨_, rfl⟩
  have KH : Hid (Blk w4 G2 143 #[.bool b, .int .i64 kk, .int .i64 z, .slice A1 n1 cp1, .slice A2 n2 cp2]) := Lib.hid (by rw [hw4, hG2]; exact Blk.fresh w3 _ _)
  have B4 : Hid (Below w3.heap.size w3 w4) := Lib.hid (by rw [hw4]; exact (Below.refl _ w3).alloc (Nat.le_refl _) _)
  have M4 : Hid (mach w4 m t p o k { s with a := a1 } ∧ did w' m o w4 o) := Lib.hid ⟨M3.out.1.below B4.out, (did.below B2.out).trans (M3.out.2.trans (did.below B4.out))⟩
  have KS4 := Lib.hid (KS3.out.below B4.out)
  have HH4 : Hid (isH w4 (hv b kk z (.slice A1 n1 cp1) (.slice A2 n2 cp2)) hd) := Lib.hid (HH.out.below B4.out)
  by_cases her : er = 0
  · have hne : (er != 0) = false := by simp [her]
    have HR0 : Hid ((headM (num t.data.toList) (8 * t.size) s.a).1 = 0) := Lib.hid (by rw [← HER.out]; exact her)
    subst her
    obtain ⟨v1, v2, hve, lv1, lv2⟩ := HH4.out
    have hb : b = hd.fin ∧ kk = (hd.kind : Int) ∧ z = (hd.size : Int) ∧ Value.slice A1 n1 cp1 = v1 ∧ Value.slice A2 n2 cp2 = v2 := by
      unfold hv at hve
      injection hve with hve
      simp only [Array.mk.injEq, List.cons.injEq, Value.bool.injEq, Value.int.injEq, true_and, and_true] at hve
      exact hve
    obtain ⟨hb1, hb2, hb3, hb4, hb5⟩ := hb
    have LV1 : Hid (lst w4 (.slice A1 n1 cp1) hd.lits) := Lib.hid (by rw [hb4]; exact lv1)
    have LV2 : Hid (lst w4 (.slice A2 n2 cp2) hd.dists) := Lib.hid (by rw [hb5]; exact lv2)
    have HB1 := Lib.hid hb1
    have HB2 := Lib.hid hb2
    have HB3 := Lib.hid hb3
    clear hve hb1 hb2 hb3 hb4 hb5 lv1 lv2 HH4 HH
    obtain ⟨A3, cap3, hvs, _⟩ := M4.out.1.h.s.form
    obtain ⟨N3, hN3⟩ : ∃ N3, N3 = s.L.length := ⟨_, rfl⟩
    have hvs : o.vs = .slice A3 N3 cap3 := by rw [hvs, hN3]
    have HVS := Lib.hid hvs
    have HN3 := Lib.hid hN3
    have c3 : w4.cell? ⟨m, 3, none⟩ = some (.slice A3 N3 cap3) := by rw [← hvs]; exact M4.out.1.b.cell 3
    have g0 : w4.cell? ⟨G, 0, none⟩ = some (.int .i64 (a : Int)) := KS4.out.cell 0
    have g1 : w4.cell? ⟨G, 1, none⟩ = some (.int .i64 (n : Int)) := KS4.out.cell 1
    have HL3 : Hid (N3 ≤ 1000000) := Lib.hid (by have := HV.out.fewL HS.out; omega)
    obtain ⟨i0, hi, hz0, hz1, hz2⟩ := info_parts infoSt
    have hO : w4.ownsRow 0 56 2 (.slice A3 N3 cap3) N3 (Ls s.L) := by
      have k := M4.out.1.h.s
      rw [hvs] at k
      unfold strt at k
      rw [← hN3] at k
      exact k
    have ag : (Value.slice A3 N3 cap3).ownBlock ≠ some m := fun e => M4.out.1.ne (.inr (.inr (.inl (by rw [hvs]; exact e)))) rfl
    have lg := M4.out.1.b.lt
    have f3 := M4.out.1.b.frozen 3
    clear hvs hN3
    go_wp2_with fail
    rw [← hw4, ← hG2]
    clear hw4 hG2
    have F3 : Hid (∀ o1, ((w4.alloc o1).drew).frozen? ⟨m, 3, none⟩ = false) := Lib.hid (fun o1 => (((Below.refl _ w4).alloc (Nat.le_refl _) o1).frozen (p := ⟨m, 3, none⟩) lg).trans f3)
    have C3 : Hid (∀ o1, ((w4.alloc o1).drew).cell? ⟨m, 3, none⟩ = some (.slice A3 N3 cap3)) := Lib.hid (fun o1 => (((Below.refl _ w4).alloc (Nat.le_refl _) o1).cell (p := ⟨m, 3, none⟩) lg).trans c3)
    go_region_law (refine step_append_lies _ (by rfl) _ _ _ (by rfl) 0 56 i0 _ 2 16 Tryz.underlying42 hi hz0 hz1 hz2 rfl (by omega) (.slice A3 N3 cap3) N3 (Ls s.L) (by rfl) ((hO.alloc _).drew) ⟨w4.heap.size, 0, none⟩ 1 1 [.int .i64 (a : Int), .int .i64 (n : Int)] (by rfl) (by rfl) (World.news_of_block (cs := #[.int .i64 (a : Int), .int .i64 (n : Int)]) (t := 56) (fr := (0, 0)) (heap_alloc_new _ _)) (by simp [Value.oneCell']) (by omega) (by unfold maxLen; have := HL3.out; omega) (by have := HL3.out; omega) (by omega) (w4.heap.size + 1) (by simp) ?_; intro gg cap1 w5 hown1 hgrow hat hlt; have fz := (hgrow.frozen_far ⟨m, 3, none⟩ (by simp; omega) (Ne.symm ag)).trans (F3.out _); have cz := (hgrow.cell_far ⟨m, 3, none⟩ (by simp; omega) (Ne.symm ag)).trans (C3.out _))
    all_goals
      have g5 := mach_start (a := a) (n := n) (gg := gg) (cap := cap1) M4.out.1 (((Below.refl _ w4).alloc (Nat.le_refl _) (.cells #[.int .i64 (a : Int), .int .i64 (n : Int)] 56)).drew) (by have := hown1; rw [HN3.out] at this; exact this) (by rw [HVS.out]; exact hgrow) (by
        rw [HVS.out]
        rcases hat with h | h
        · exact .inl h
        · exact .inr (by simp; omega))
      have e0 : ({ s with a := a1 } : St).L.length = N3 := HN3.out.symm
      rw [e0] at g5
      have KH7 : Hid (Blk (w5.setCell ⟨m, 3, none⟩ (.slice (some ⟨gg, 0, none⟩) (N3 + 1) cap1)) G2 143 #[.bool b, .int .i64 kk, .int .i64 z, .slice A1 n1 cp1, .slice A2 n2 cp2]) := Lib.hid (head_did M4.out.1 g5.2 KH.out)
      have LV17 : Hid (lst (w5.setCell ⟨m, 3, none⟩ (.slice (some ⟨gg, 0, none⟩) (N3 + 1) cap1)) (.slice A1 n1 cp1) hd.lits) := Lib.hid (lst_did M4.out.1 g5.2 LV1.out)
      have LV27 : Hid (lst (w5.setCell ⟨m, 3, none⟩ (.slice (some ⟨gg, 0, none⟩) (N3 + 1) cap1)) (.slice A2 n2 cp2) hd.dists) := Lib.hid (lst_did M4.out.1 g5.2 LV2.out)
      obtain ⟨o7, ho7⟩ : ∃ o7, o7 = ({ o with vs := .slice (some ⟨gg, 0, none⟩) (N3 + 1) cap1 } : Ob) := ⟨_, rfl⟩
      rw [← ho7] at g5
      have M7 : Hid (mach (w5.setCell ⟨m, 3, none⟩ (.slice (some ⟨gg, 0, none⟩) (N3 + 1) cap1)) m t p o7 k { s with a := a1, L := s.L ++ [(a, n)] } ∧ did w' m o (w5.setCell ⟨m, 3, none⟩ (.slice (some ⟨gg, 0, none⟩) (N3 + 1) cap1)) o7) := Lib.hid ⟨g5.1, M4.out.2.trans g5.2⟩
      clear g5 hown1 hgrow hat hlt fz cz F3 C3 hO ag lg f3 c3 g0 g1 ho7 e0
      generalize w5.setCell ⟨m, 3, none⟩ (.slice (some ⟨gg, 0, none⟩) (N3 + 1) cap1) = w7 at *
      have k0 : w7.cell? ⟨G2, 0, none⟩ = some (.bool b) := KH7.out.cell 0
      have f8 : w7.frozen? ⟨m, 8, none⟩ = false := M7.out.1.b.frozen 8
      have c8 : w7.cell? ⟨m, 8, none⟩ = some (.bool s.fin) := M7.out.1.b.cell 8
      have hGm : G2 ≠ m := Blk.apart KH7.out M7.out.1.b (by decide)
      have hmG : m ≠ G2 := Ne.symm hGm
      have M8 := Lib.hid (set_fin M7.out.1 b)
      have k1 : (w7.setCell ⟨m, 8, none⟩ (.bool b)).cell? ⟨G2, 1, none⟩ = some (.int .i64 kk) := (head_did M7.out.1 M8.out.2 KH7.out).cell 1
      have HHF := Lib.hid (head_facts HR0.out)
      have HNX := Lib.hid (head_nx HR0.out)
      rw [← HHD.out, ← HA1.out] at HHF HNX
      have HKEY := HV.out.head HE.out HX.out HF.out HR0.out (by rw [← HHD.out, ← HA1.out]; exact HNX.out)
      rw [← HHD.out, ← HA1.out] at HKEY
      have HKEY := Lib.hid HKEY
      by_cases hkd : hd.kind = 0
      · have hkk : (kk == 0) = true := by have := HB2.out; simp; omega
        have M9 := Lib.hid (set_size M8.out.1 HX.out z)
        have k2 : (w7.setCell ⟨m, 8, none⟩ (.bool b)).cell? ⟨G2, 2, none⟩ = some (.int .i64 z) := (head_did M7.out.1 M8.out.2 KH7.out).cell 2
        have f9 : (w7.setCell ⟨m, 8, none⟩ (.bool b)).frozen? ⟨m, 9, none⟩ = false := M8.out.1.b.frozen 9
        have c9 : (w7.setCell ⟨m, 8, none⟩ (.bool b)).cell? ⟨m, 9, none⟩ = some (.int .i64 o7.q) := M8.out.1.b.cell 9
        have hst : (store ⟨m, 7, none⟩ (.func (.func 96) #[] #[])).run Tryz.prog ((w7.setCell ⟨m, 8, none⟩ (.bool b)).setCell ⟨m, 9, none⟩ (.int .i64 z)) = .ok () (((w7.setCell ⟨m, 8, none⟩ (.bool b)).setCell ⟨m, 9, none⟩ (.int .i64 z)).setCell ⟨m, 7, none⟩ (.func (.func 96) #[] #[])) := run_next M9.out.1 (.sto hd.size)
        have M10 := Lib.hid (set_next M9.out.1 (nx := .sto hd.size) HB3.out)
        have HKD := Lib.hid hkd
        clear hkd
        go_wp2
        go_ret
        have e1 : nxOf hd = .sto hd.size := if_pos HKD.out
        have key := HKEY.out
        rw [e1, ← HAE.out, ← HNE.out] at key
        have eb := HB1.out
        subst eb
        exact ⟨0, { s with a := a1, L := s.L ++ [(a, n)], fin := hd.fin, nx := .sto hd.size }, { o7 with q := z }, rfl, M10.out.1, M7.out.2.trans (M8.out.2.trans (M9.out.2.trans M10.out.2)), HE.out, key, by
          have h3 := HHF.out.2
          have e4 := HE.out
          have e5 := HX.out
          unfold St.far
          simp only [e4, e5, if_true]
          have n0 : Nx.num .no = 0 := rfl
          have n1 : Nx.num (.sto hd.size) = 1 := rfl
          rw [n0, n1]
          omega⟩
      · have hkk : (kk == 0) = false := by have := HB2.out; simp; omega
        have e1 : nxOf hd = .sym hd.lits hd.dists := if_neg hkd
        have hcd : code hd.lits ∧ code hd.dists := by have := HNX.out; rw [e1] at this; exact this
        have HE1 := Lib.hid e1
        have HCD := Lib.hid hcd
        obtain ⟨q1, hr1⟩ := (lst_did M7.out.1 M8.out.2 LV17.out).row
        have k3 : (w7.setCell ⟨m, 8, none⟩ (.bool b)).cell? ⟨G2, 3, none⟩ = some (.slice A1 n1 cp1) := (head_did M7.out.1 M8.out.2 KH7.out).cell 3
        have HN1 := New_ok (cap := cp1) (by rw [q1]; exact code_err hcd.1) (Lib.hid hr1)
        have e2 : L n1 (ix hd.lits) = hd.lits := by rw [q1]; exact L_ix _
        rw [e2] at HN1
        have HN1 := Lib.hid HN1
        have HQ1 := Lib.hid q1
        clear hkd e1 hcd q1 hr1 e2
        go_wp2_with fail
        refine HN1.out.mono ?_
        rintro e w9 ⟨ga, rfl, ta, _, b9⟩
        have TA9 := Lib.hid ta
        have B9 := Lib.hid b9
        clear ta b9 HN1
        have M9 := Lib.hid (M8.out.1.below B9.out)
        have f10 : w9.frozen? ⟨m, 10, none⟩ = false := M9.out.b.frozen 10
        have c10 : w9.cell? ⟨m, 10, none⟩ = some (.pointer o7.tl) := M9.out.b.cell 10
        have M10 := Lib.hid (set_lits M9.out HX.out (some ⟨ga, 0, none⟩))
        have KH10 := Lib.hid (head_did M9.out M10.out.2 ((head_did M7.out.1 M8.out.2 KH7.out).below B9.out))
        have k4 : (w9.setCell ⟨m, 10, none⟩ (.pointer (some ⟨ga, 0, none⟩))).cell? ⟨G2, 4, none⟩ = some (.slice A2 n2 cp2) := KH10.out.cell 4
        obtain ⟨q2, hr2⟩ := (lst_did M9.out M10.out.2 ((lst_did M7.out.1 M8.out.2 LV27.out).below B9.out)).row
        have HN2 := New_ok (cap := cp2) (by rw [q2]; exact code_err HCD.out.2) (Lib.hid hr2)
        have e2 : L n2 (ix hd.dists) = hd.dists := by rw [q2]; exact L_ix _
        rw [e2] at HN2
        have HN2 := Lib.hid HN2
        have HQ2 := Lib.hid q2
        clear q2 hr2 e2
        go_wp2_with fail
        refine HN2.out.mono ?_
        rintro e w11 ⟨gb, rfl, tb, _, b11⟩
        have TB11 := Lib.hid tb
        have B11 := Lib.hid b11
        clear tb b11 HN2
        have M11 := Lib.hid (M10.out.1.below B11.out)
        have f11 : w11.frozen? ⟨m, 11, none⟩ = false := M11.out.b.frozen 11
        have c11 : w11.cell? ⟨m, 11, none⟩ = some (.pointer o7.td) := M11.out.b.cell 11
        have M12 := Lib.hid (set_dists M11.out HX.out (some ⟨gb, 0, none⟩))
        have TA12 : Hid (tabl (w11.setCell ⟨m, 11, none⟩ (.pointer (some ⟨gb, 0, none⟩))) ga hd.lits.length hd.lits) := Lib.hid (by
          have k1 := TA9.out
          rw [HQ1.out] at k1
          exact tabl_off (tabl.below (tabl_off k1 M10.out.2.on (fun i hi _ => M9.out.notab hi)) B11.out) M12.out.2.on (fun i hi _ => M11.out.notab hi))
        have TB12 : Hid (tabl (w11.setCell ⟨m, 11, none⟩ (.pointer (some ⟨gb, 0, none⟩))) gb hd.dists.length hd.dists) := Lib.hid (by
          have k1 := TB11.out
          rw [HQ2.out] at k1
          exact tabl_off k1 M12.out.2.on (fun i hi _ => M11.out.notab hi))
        have hst12 : (store ⟨m, 7, none⟩ (.func (.func 98) #[] #[])).run Tryz.prog (w11.setCell ⟨m, 11, none⟩ (.pointer (some ⟨gb, 0, none⟩))) = .ok () ((w11.setCell ⟨m, 11, none⟩ (.pointer (some ⟨gb, 0, none⟩))).setCell ⟨m, 7, none⟩ (.func (.func 98) #[] #[])) := run_next M12.out.1 (.sym hd.lits hd.dists)
        have M13 := Lib.hid (set_next M12.out.1 (nx := .sym hd.lits hd.dists) ⟨ga, gb, rfl, rfl, TA12.out, TB12.out⟩)
        go_wp2
        go_ret
        have key := HKEY.out
        rw [HE1.out, ← HAE.out, ← HNE.out] at key
        have eb := HB1.out
        subst eb
        exact ⟨0, { s with a := a1, L := s.L ++ [(a, n)], fin := hd.fin, nx := .sym hd.lits hd.dists }, _, rfl, M13.out.1, M7.out.2.trans (M8.out.2.trans ((did.below B9.out).trans (M10.out.2.trans ((did.below B11.out).trans (M12.out.2.trans M13.out.2))))), HE.out, key, by
          have h3 := HHF.out.2
          have e4 := HE.out
          have e5 := HX.out
          unfold St.far
          simp only [e4, e5, if_true]
          have n0 : Nx.num .no = 0 := rfl
          have n1 : Nx.num (.sym hd.lits hd.dists) = 1 := rfl
          rw [n0, n1]
          omega⟩
  · have hne : (er != 0) = true := by simp [her]
    have hr0 : (headM (num t.data.toList) (8 * t.size) s.a).1 ≠ 0 := by rw [← HER.out]; exact her
    have HR0 := Lib.hid hr0
    have HE0 := Lib.hid her
    clear her hr0
    go_wp2
    go_ret
    have e1 : a1 = s.a := by rw [HA1.out]; exact (head_err HR0.out).2
    have key := HV.out.head_no HE.out HX.out HF.out HR0.out (a' := a1) (by omega) (by have := HA.out; omega)
    rw [← HER.out] at key
    rw [← hw4]
    exact ⟨er, { s with a := a1 }, o, rfl, M4.out.1, M4.out.2, HE.out, key, far_err (a' := a1) (T' := s.T) HE.out HE0.out (by omega)⟩
end Go.Proofs.YtnkninjdpgpkmaaGreatDoor.Ii
